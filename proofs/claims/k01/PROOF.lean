import PyProof.Rows.All
import Wide.All
import OpenK.AllK
import Wide.FinOn
import HandS.ForSpec
import HandS.ForMost
import HandS.Evl
import HandS.Wide
import HandS.Gcd
import HandS.Small
import HandS.TryOnly
import HandS.IsInst
import HandS.EndBits
import HandS.Style
import HandS.Star
import HandS.Defaults
import HandS.RaiseMore
import PyProof.ReprRoads
import PyProof.CallFns
import PySem.Challenge.RW_offscale_k01_fractions_made
set_option Elab.async false
set_option linter.all false
set_option maxRecDepth 100000
set_option maxHeartbeats 4000000
namespace Qj
open PySem PySem.Spec PyProof.Rows L2

/-! ### promises of defs that are called where no guard stands on the stack -/
structure FnG (P : Program) (w : World) (K : PySem.W.Frag) (mg : Str → Option Value) (base : Heap) (CX : CXT) (k : Nat) (f : Addr) (fd : FuncData) (ps : List Str) (sp : Sp) : Prop where
  len : ∀ as G Q E, sp as G Q E → as.length = ps.length
  go : ∀ (A : Around) (fr : List Env) (s : Shared) (H : Hp) (args : Args) (us : List Value) (as : List V) (Q : VK) (E : XK), Room k A → A.guards = some [] →
    Env0 P w K mg base A fr s H → BindsTo s fd args (ps.zip us) → Vals as us → sp as H Q E → codeAny (model P w) A (.call (.ref f) args) (CR CX fr P w H s Q E) s
section
variable {P : Program} {w : World} {K : PySem.W.Frag} {mg : Str → Option Value} {base : Heap} {CX : CXT}
theorem FnG.of {k : Nat} {f : Addr} {fd : FuncData} {ps : List Str} {sp : Sp} (F : FnOk P w K mg base CX k f fd ps sp) : FnG P w K mg base CX k f fd ps sp :=
  ⟨F.len, fun A fr s H args us as Q E r _ e b v h => F.run A fr s H args us as Q E r e b v h⟩
theorem FnG.up {j k : Nat} {f : Addr} {fd : FuncData} {ps : List Str} {sp : Sp} (F : FnG P w K mg base CX j f fd ps sp) (h : j ≤ k) : FnG P w K mg base CX k f fd ps sp :=
  ⟨F.len, fun A fr s H args us as Q E r g e b v z => F.go A fr s H args us as Q E (r.mono h) g e b v z⟩
theorem fnG_of {k : Nat} {f : Addr} {nm qual : Str} {prm : Arguments} {bd : List Stmt} {sc : Scope} {dV kV doc pm cdv ct oc : Value} {an od : Option Addr} {osl : Array (Option Value)} {N ps : List Str} {sp : Sp}
    (lk : K.lookup f = some ⟨oc, od, .func (PySem.W.fnOf nm qual prm bd sc dV kV doc pm an cdv ct), osl⟩) (cc : PySem.W.codeIn K cdv qual = true) (S : FnScope N ps sc) (len : ∀ as G Q E, sp as G Q E → as.length = ps.length)
    (hb : ∀ (A : Around) (fr : List Env) (s : Shared) (H : Hp) (as : List V) (Q : VK) (E : XK), Room k (A.deeper (envOfC qual sc s.heap.objs.size f cdv)) → A.guards = some [] → sp as H Q E →
      ∃ t, PSs (cxOf CX P w K mg base N qual sc f cdv A fr s H E) bd t ∧ t { nx := fun _ G => Q .non G, rt := Q } (start N as) H) :
    FnG P w K mg base CX (k + 1) f (PySem.W.fnOf nm qual prm bd sc dV kV doc pm an cdv ct) ps sp := by
  constructor
  · exact len
  · intro A fr s H args us as Q E rm gd e0 bt va hsp
    have la := len _ _ _ _ hsp
    have KS : K.In s.heap := e0.mod.kin.keeps (fun b o z => (e0.bs b o z).1)
    have NL : s.heap.NoLimit := e0.mod.nolimit.keeps (fun b o z => (e0.bs b o z).1)
    have kinds : ∀ q ∈ ps.zip us, sc.names.lookup q.1 = some .local ∨ (sc.names.lookup q.1 = some .cell ∧ ((cellsFrom (s.heap.objs.size + 1) sc.names []).lookup q.1).isSome = true) := by
      intro q hq
      obtain ⟨n, v⟩ := q
      have hn := (List.of_mem_zip hq).1
      cases S.par n hn with
      | inl z => exact Or.inl z
      | inr z => exact Or.inr ⟨z, PySem.W.cellsFrom_some _ _ _ (Or.inl z)⟩
    refine codeAny_call_function rm.depth (KS _ _ lk) rfl S.co S.gen rfl (PySem.W.codeRec_of KS cc) (bt _ _ _ _ ?_)
    refine wpAny_newFunctionEnv_cells S.kind kinds (fun ev he s1 x => ?_)
    cases he
    refine ⟨NL.keeps x.toInCall.keep, codeAny_func ?_⟩
    obtain ⟨t, pt, ht⟩ := hb A fr s H as Q E (rm.deeper _) gd hsp
    have I0 : Inv (cxOf CX P w K mg base N qual sc f cdv A fr s H E) [] (start N as) H s1 := inv_start S rm.hd e0 la va x
    have back : ∀ {τ : L2.St} {G : Hp} {v : V} {u : Value} {s2 : Shared}, Inv (cxOf CX P w K mg base N qual sc f cdv A fr s H E) [] τ G s2 → RelV v u → Q v G → CE fr P w H s Q u s2 := by
      intro τ G v u s2 J rv q
      exact ⟨v, G, J.os, J.bare, J.base, J.hok, rv, q⟩
    refine wpAny_mono (pt.run [] s1 (start N as) H _ I0 ht) (fun fl s2 hs => ?_) (fun e s2 hs => hs)
    cases fl with
    | ret u =>
      obtain ⟨v, τ, G, J, rv, q⟩ := hs
      exact back J rv q
    | next =>
      obtain ⟨τ, G, J, q⟩ := hs
      exact back (v := V.non) (u := Value.none) J rfl q
    | brk =>
      obtain ⟨_, _, _, q⟩ := hs
      exact q.elim
    | cont =>
      obtain ⟨_, _, _, q⟩ := hs
      exact q.elim
theorem okG {x qual : Str} {st : Stmt} {f : Addr} {fd : FuncData} {N ps : List Str} {k : Nat} {sp : Sp} (F : Fun K x qual st f fd) (S : FnScope N ps (defScope st)) (len : ∀ as G Q E, sp as G Q E → as.length = ps.length)
    (hb : ∀ (cdv : Value) (A : Around) (fr : List Env) (s : Shared) (H : Hp) (as : List V) (Q : VK) (E : XK), Room k (A.deeper (envOfC qual (defScope st) s.heap.objs.size f cdv)) → A.guards = some [] → sp as H Q E →
      ∃ t, PSs (cxOf CX P w K mg base N qual (defScope st) f cdv A fr s H E) (defBody st) t ∧ t { nx := fun _ G => Q .non G, rt := Q } (start N as) H) : FnG P w K mg base CX (k + 1) f fd ps sp := by
  obtain ⟨oc, od, kV, doc, pm, an, cdv, ct, osl, e, lk, cc⟩ := F.ex
  subst e
  exact fnG_of lk cc S len (fun A fr s H as Q E r g h => hb cdv A fr s H as Q E r g h)
end
section
variable {X : Cx} {CX : CXT} {k : Nat} {f : Addr} {fd : FuncData} {ps : List Str} {sp : Sp} {dvs : List V} {ds : List Value} {E : XK} {x : Str} {p pos : Pos} {e : Expr} {es : List Expr} {t : TA}
theorem run_g {pins : List (Addr × Obj)} {σ : L2.St} {H : Hp} {s : Shared} {Q : VK} {us : List Value} {as : List V} (F : FnG X.prog X.w X.K X.mg X.base CX k f fd ps sp) (rm : Room k X.A) (gd : X.A.guards = some []) (hb : Binds X.K fd ps ds)
    (hd : Vals dvs ds) (hx : Passes CX X E) (I : Inv X pins σ H s) (r : Vals as us) (h : sp (as ++ dvs) H Q E) : wpAny (model X.prog X.w) X.A (call (.ref f) us) (EP X pins σ Q) X.xe s := by
  have both : Vals (as ++ dvs) (us ++ ds) := r.append hd
  have hl : (us ++ ds).length = ps.length := both.length.symm.trans (F.len _ _ _ _ h)
  have c := F.go X.A X.stack s H ⟨us, []⟩ (us ++ ds) (as ++ dvs) Q E rm gd I.env0 (hb s us I.kIn hl) both h
  refine wpAny_call (codeAny_mono c (fun r2 s2 hq => ?_))
  cases r2 with
  | error e2 => exact hx pins σ H s e2 s2 I hq
  | ok fl =>
    cases fl with
    | ret u => exact I.after hq
    | next => exact hq.elim
    | brk => exact hq.elim
    | cont => exact hq.elim
theorem pe_callG (F : FnG X.prog X.w X.K X.mg X.base CX k f fd ps sp) (rm : Room k X.A) (gd : X.A.guards = some []) (hg : Gl X x) (hm : X.mg x = some (.ref f)) (kp : PySem.W.keepIn X.K (.ref f) = true) (hb : Binds X.K fd ps ds) (hd : Vals dvs ds) (hx : Passes CX X E)
    (ha : PA X (e :: es) t) (h1 : (x == ("__debug__" : Str)) = false := by decide) (h2 : starEach (e :: es) X.env = (false, eval e X.env) :: starEach es X.env := by rfl) (h3 : (backTo pos (starEach es X.env)).any (·.1) = false := by rfl) :
    PE X (.Call (.Name x p) (e :: es) [] pos) (tCall sp dvs E t) := by
  constructor
  intro pins s σ H Q I h
  refine wpAny_Call_Name_kw (ld_glob I hg hm ?_ h1)
  exact PySem.W.callWith_K (h₀ := X.base) I.ok.mod.kin kp (thn (ha.run pos pins s σ H _ I h) (fun us s1 z => by
    obtain ⟨vs, H1, I1, r, q⟩ := z
    exact ⟨I1.kIn, run_g F rm gd hb hd hx I1 r q⟩)) h2 h3

/-- C(), C an own exception class without own __init__ -/
theorem pmk_own0 {C : Addr} {bmB : List Value} {B newId initId : String} (F : ExcBaseFacts B newId initId bmB) (q : PySem.W.excIn X.K C bmB newId = true) (gC : X.mg x = some (.ref C))
    (kC : PySem.W.keepIn X.K (.ref C) = true) (r : Raises X (.ref C)) (hg : Gl X x) (h1 : (x == ("__debug__" : Str)) = false := by decide) :
    PMk X (.Call (.Name x p) [] [] pos) (fun _ H Q => Q (.ref C) none H) := by
  intro pins s σ H Q I h
  refine wpAny_Call_Name_kw (ld_glob I hg gC ?_ h1)
  refine PySem.W.callWith_K0 I.kIn kC ?_
  obtain ⟨bm, N, nm, qn, bs, hdct, sn, sub, ab, col, dd, k0, k1, k2, k3, k5, mN, hC, hN, hni, T⟩ := exc_obj I.kIn q
  show wpAny _ _ (call (.ref C) []) _ _ _
  refine wpAny_call_exc_subT F T hC hN hni (fun h' e2 hm => ?_) (Nat.zero_le _)
  exact mk_of I hm r h (I.hok.gone hm.new)

end

/-! ### repr of data -/
/-- small enough data: n its weight, m its depth -/
structure Okd (d : PyData) (n m : Nat) : Prop where
  sh : d.showable = true
  nd : d.hasDict = false
  lv : d.leavesShort 1001 = true
  wt : d.weight ≤ n
  dp : d.depth ≤ m
structure OkA (ds : List PyData) (n m : Nat) : Prop where
  sh : PyData.showableAll ds = true
  nd : PyData.hasDictAll ds = false
  lv : PyData.leavesShortAll 1001 ds = true
  wt : PyData.weightAll ds ≤ n
  dp : PyData.depthAll ds ≤ m
theorem okd_int {i : Int} {k : Nat} (h : i.natAbs < 2 ^ k) (h0 : 0 < k) (hk : k ≤ 1000) : Okd (.int i) k 0 := by
  have hl : i.natAbs.log2 < k := PySem.Flt.log2_lt_of h0 h
  refine ⟨?_, ?_, ?_, ?_, ?_⟩
  · simp only [PyData.showable, decide_eq_true_eq]
    omega
  · simp only [PyData.hasDict]
  · simp only [PyData.leavesShort, decide_eq_true_eq]
    show (Str.ofString (toString i)).length ≤ 1001
    have e := int_text_length_le (a := i) (k := 1000) (by decide) (by omega)
    rw [PySem.ofString_length]
    exact e
  · simp only [PyData.weight]
    split
    · omega
    · omega
  · simp only [PyData.depth]
    omega
theorem okd_bl {b : Bool} : Okd (.bool b) 0 0 := by
  refine ⟨?_, ?_, ?_, ?_, ?_⟩
  · simp only [PyData.showable]
  · simp only [PyData.hasDict]
  · simp only [PyData.leavesShort]
  · simp only [PyData.weight]; omega
  · simp only [PyData.depth]; omega
theorem okd_non : Okd .none 0 0 := by
  refine ⟨?_, ?_, ?_, ?_, ?_⟩
  · simp only [PyData.showable]
  · simp only [PyData.hasDict]
  · simp only [PyData.leavesShort]
  · simp only [PyData.weight]; omega
  · simp only [PyData.depth]; omega
theorem oka_nil : OkA [] 0 0 := by
  refine ⟨?_, ?_, ?_, ?_, ?_⟩
  · simp only [PyData.showableAll]
  · simp only [PyData.hasDictAll]
  · simp only [PyData.leavesShortAll]
  · simp only [PyData.weightAll]; omega
  · simp only [PyData.depthAll]; omega
theorem oka_cons {d : PyData} {ds : List PyData} {a b n m : Nat} (h : Okd d a b) (t : OkA ds n m) : OkA (d :: ds) (a + 1 + n) (max b m) := by
  refine ⟨?_, ?_, ?_, ?_, ?_⟩
  · simp only [PyData.showableAll, h.sh, t.sh, Bool.and_self]
  · simp only [PyData.hasDictAll, h.nd, t.nd, Bool.or_self]
  · simp only [PyData.leavesShortAll, h.lv, t.lv, Bool.and_self]
  · simp only [PyData.weightAll]
    have := h.wt
    have := t.wt
    omega
  · simp only [PyData.depthAll]
    have := h.dp
    have := t.dp
    omega
theorem okd_tup {ds : List PyData} {n m : Nat} (t : OkA ds n m) : Okd (.tuple ds) n (m + 1) := by
  refine ⟨?_, ?_, ?_, ?_, ?_⟩
  · simp only [PyData.showable, t.sh]
  · simp only [PyData.hasDict, t.nd]
  · simp only [PyData.leavesShort, t.lv]
  · simp only [PyData.weight]
    exact t.wt
  · simp only [PyData.depth]
    have := t.dp
    omega
theorem okd_lst {ds : List PyData} {n m : Nat} (t : OkA ds n m) : Okd (.list ds) n (m + 1) := by
  refine ⟨?_, ?_, ?_, ?_, ?_⟩
  · simp only [PyData.showable, t.sh]
  · simp only [PyData.hasDict, t.nd]
  · simp only [PyData.leavesShort, t.lv]
  · simp only [PyData.weight]
    exact t.wt
  · simp only [PyData.depth]
    have := t.dp
    omega
theorem Okd.size {d : PyData} {n m : Nat} (h : Okd d n m) (hn : n ≤ 16000) : d.shown.length ≤ sizeLine := by
  have e := PyData.shown_le 1001 (by decide) d h.lv
  have := h.wt
  rw [sizeLine_eq]
  omega
def rRepr (K : PySem.W.Frag) : List V → Hp → VK → Prop := fun xs H Q => ∃ (v : V) (d : PyData) (n m : Nat), xs = [v] ∧ Dp K H v d ∧ Okd d n m ∧ n ≤ 16000 ∧ m ≤ 60 ∧ Q (.str d.shown) H
section
variable {X : Cx}
theorem cr_repr (hg : X.A.guards = some []) (hu : X.A.units + 64 < cLine) : CallR X (.builtin "repr") (rRepr X.K) := by
  intro pins s σ H xs us Q I r h
  obtain ⟨v, d, n, m, e, hd, ok, hn, hm, q⟩ := h
  subst e
  obtain ⟨u, hus, ru⟩ := vals1 r
  subst hus
  have sz := ok.size hn
  obtain ⟨as, rd⟩ := Dp.reads I d v u hd ru
  have hd2 := ok.dp
  cases rd with
  | none => exact PySem.P.repr_of_none ⟨.str _, H, I.tok _, ⟨_, rfl⟩, q⟩
  | bool b =>
    refine PySem.P.repr_of_bool ⟨.str _, H, I.tok _, ⟨_, rfl⟩, ?_⟩
    exact q
  | int i t =>
    have hs := ok.sh
    simp only [PyData.showable, decide_eq_true_eq] at hs
    exact PySem.P.repr_of_int hs ⟨.str _, H, I.tok _, ⟨_, rfl⟩, q⟩
  | str x t => exact PySem.P.repr_of_str ⟨.str _, H, I.tok _, ⟨_, rfl⟩, q⟩ sz
  | list a b c e =>
    exact repr_of_reads' (.list a b c e) ok.sh (fun z => by rw [ok.nd] at z; cases z) hg (by omega) (fun _ _ z => z) (fun h' u2 tk k => ⟨.str _, H, I.kept k, ⟨_, rfl⟩, q⟩) sz
  | tuple a b c e =>
    exact repr_of_reads' (.tuple a b c e) ok.sh (fun z => by rw [ok.nd] at z; cases z) hg (by omega) (fun _ _ z => z) (fun h' u2 tk k => ⟨.str _, H, I.kept k, ⟨_, rfl⟩, q⟩) sz
  | dict a b c e f =>
    have z := ok.nd
    simp only [PyData.hasDict] at z
    cases z
end
end Qj
namespace Qj
open PySem PySem.Spec PyProof.Rows L2
/-! ### a def of the text, where it stands -/
structure Def (K : PySem.W.Frag) (mg : Str → Option Value) (x : Str) (st : Stmt) (ps : List Str) where
  f : Addr
  fd : FuncData
  F : Fun K x x st f fd
  g : mg x = some (.ref f)
  b : Binds K fd ps []
def def_mk {K : PySem.W.Frag} {mg : Str → Option Value} {h : Heap} {x : Str} {st : Stmt} {ps : List Str} (X : K.In h) (G : h.Ns mainGlobals mg) {f : Addr} {oc : Value} {od an : Option Addr} {osl : Array (Option Value)} {kV dc pm cd ct : Value}
    (a : PySem.W.nsIn K mainGlobals x = some (some (.ref f))) (l : K.lookup f = some ⟨oc, od, .func (PySem.W.fnOf x x (defArgs st) (defBody st) (defScope st) .none kV dc pm an cd ct), osl⟩) (c : PySem.W.codeIn K cd x = true) (k : PySem.W.keepIn K (.ref f) = true)
    (hb : ∀ (kV doc pm : Value) (an : Option Addr) (cdv ct : Value) (us : List Value), us.length = ps.length → bindArgs (PySem.W.fnOf x x (defArgs st) (defBody st) (defScope st) .none kV doc pm an cdv ct) ⟨us, []⟩ = pure (ps.zip us)) : Def K mg x st ps where
  f := f
  fd := PySem.W.fnOf x x (defArgs st) (defBody st) (defScope st) .none kV dc pm an cd ct
  F := fun_mk l c k
  g := PySem.W.mg_of X G a
  b := (fun_mk (x := x) (qual := x) (st := st) l c k).binds hb

/-! ### heaps that grow -/
theorem ex_new {H : Hp} {p : Addr} {o : HO} (h : H p = none) : Evl.Ex H (upd H p o) := Evl.Ex.new h
/-- all but D stands -/
def Bu (D : Addr) (H H' : Hp) : Prop := ∀ a o, a ≠ D → H a = some o → H' a = some o
theorem Bu.refl (D : Addr) (H : Hp) : Bu D H H := fun _ _ _ h => h
theorem Bu.trans {D : Addr} {H H1 H2 : Hp} (a : Bu D H H1) (b : Bu D H1 H2) : Bu D H H2 := fun x o n h => b x o n (a x o n h)
theorem Bu.of {D : Addr} {H H' : Hp} (e : Evl.Ex H H') : Bu D H H' := fun a o _ h => e a o h
theorem Bu.upd {D : Addr} {H : Hp} {o : HO} : Bu D H (upd H D o) := fun a u n h => by
  rw [upd_ne n]
  exact h
theorem Bu.new {D p : Addr} {H : Hp} {o : HO} (h : H p = none) : Bu D H (L2.upd H p o) := Bu.of (ex_new h)
/-- the drawn deck stands at D -/
def DeckAt (H : Hp) (D : Addr) : Prop := ∃ g m c : Int, H D = some (.lst [.int g, .int m, .int c]) ∧ -(2 ^ 62) < m ∧ m < 2 ^ 62
theorem DeckAt.ex {H H' : Hp} {D : Addr} (d : DeckAt H D) (e : Evl.Ex H H') : DeckAt H' D := by
  obtain ⟨g, m, c, h, b⟩ := d
  exact ⟨g, m, c, e _ _ h, b⟩
theorem DeckAt.ne {H : Hp} {D p : Addr} (d : DeckAt H D) (h : H p = none) : p ≠ D := by
  obtain ⟨g, m, c, e, _⟩ := d
  exact (ne_of_none e h).symm

/-! ### operators -/
def CDivA (_ j : Int) : Prop := j ≠ 0 ∧ j.natAbs.log2 < 9000
section
variable {X : Cx}
theorem op_fdivA : OpR X (binaryOp .FloorDiv) (rI CDivA fun i j => .int (i.fdiv j)) := opI fun i j _ _ _ _ _ hc q => floordiv_int hc.1 q (.inl (PyProof.noPylong_of_log2 hc.2))
end
/-! ### the promises that all laws' helpers share -/
theorem sz4 {n : Nat} (h : Nat.ble n 1000 = true := by rfl) : n ≤ sizeLine := Nat.le_trans (Nat.le_of_ble_eq_true h) (by decide)
def spTake : Sp := fun vs H Q _ => ∃ (D : Addr) (lim : Int), vs = [.ref D, .int lim] ∧ DeckAt H D ∧ 0 < lim ∧ lim < 2 ^ 63 ∧ ∀ (v : Int) (H' : Hp), 0 ≤ v → v < lim → Bu D H H' → DeckAt H' D → Q (.int v) H'
def spDeck (K : PySem.W.Frag) : Sp := fun vs H Q _ => ∃ (a : Addr) (ns : List Int), vs = [.ref a] ∧ SqL K H a (ns.map V.int) ∧ ns.length ≤ 63 ∧ ∀ (D : Addr) (H' : Hp), H D = none → Evl.Ex H H' → DeckAt H' D → Q (.ref D) H'
/-- lowest terms, the bottom above nought -/
def fr (t b : Int) : Int × Int := ((if 0 < b then 1 else -1) * t / ((Nat.gcd t.natAbs b.natAbs : Nat) : Int), (if 0 < b then 1 else -1) * b / ((Nat.gcd t.natAbs b.natAbs : Nat) : Int))
def frV (x : Int × Int) : HO := .tup [.int x.1, .int x.2]
def spFrac : Sp := fun vs H Q _ => ∃ t b : Int, vs = [.int t, .int b] ∧ b ≠ 0 ∧ t.natAbs < 2 ^ 8000 ∧ b.natAbs < 2 ^ 8000 ∧ ∀ p H', H p = none → Evl.Ex H H' → H' p = some (frV (fr t b)) → Q (.ref p) H'
def WF (t b : Int) (H : Hp) (m : Nat) (σ : L2.St) (H' : Hp) : Prop := ∃ x y : Int, σ = [some (.int t), some (.int b), some (.int x), some (.int y), none] ∧ 0 ≤ x ∧ 0 ≤ y ∧ Nat.gcd x.natAbs y.natAbs = Nat.gcd t.natAbs b.natAbs ∧ m = y.natAbs ∧ H' = H
theorem gcd_pos (t : Int) {b : Int} (h : b ≠ 0) : 0 < Nat.gcd t.natAbs b.natAbs := Nat.gcd_pos_of_pos_right _ (by omega)
theorem gcd_lt (t : Int) {b : Int} {k : Nat} (h : b ≠ 0) (hb : b.natAbs < k) : Nat.gcd t.natAbs b.natAbs < k := Nat.lt_of_le_of_lt (Nat.gcd_le_right _ (by omega)) hb
theorem gcd_abs (t b : Int) : Nat.gcd (if t < 0 then -t else t).natAbs (if b < 0 then -b else b).natAbs = Nat.gcd t.natAbs b.natAbs := by
  have e : ∀ x : Int, (if x < 0 then -x else x).natAbs = x.natAbs := fun x => by split <;> omega
  rw [e, e]
theorem gcd_step {x y : Int} (hx : 0 ≤ x) (hy : 0 < y) : Nat.gcd y.natAbs (x % y).natAbs = Nat.gcd x.natAbs y.natAbs := by
  obtain ⟨a, rfl⟩ := Int.eq_ofNat_of_zero_le hx
  obtain ⟨b, rfl⟩ := Int.eq_ofNat_of_zero_le (Int.le_of_lt hy)
  have e : ((a : Int) % (b : Int)).natAbs = a % b := by
    rw [← Int.natCast_emod]
    exact Int.natAbs_natCast _
  rw [e, Int.natAbs_natCast, Int.natAbs_natCast, Nat.gcd_comm b (a % b), ← Nat.gcd_rec b a, Nat.gcd_comm]
theorem cut_int {ns : List Int} {lo hi : Option Int} {i : Nat} {x : V} (h : (cutV (ns.map V.int) lo hi)[i]? = some x) : ∃ n, x = .int n := by
  have m1 := List.mem_of_getElem? h
  unfold cutV at m1
  have m2 := List.mem_of_mem_drop (List.mem_of_mem_take m1)
  obtain ⟨n, _, e⟩ := List.mem_map.mp m2
  exact ⟨n, e.symm⟩
end Qj
namespace Qj
open PySem PySem.Spec PyProof.Rows L2
/-! ### values of any kind -/
inductive Kd where
  | non | bl | int | str | tup | lst | dic
  deriving DecidableEq
def Kd.nm : Kd → String
  | .non => "NoneType" | .bl => "bool" | .int => "int" | .str => "str" | .tup => "tuple" | .lst => "list" | .dic => "dict"
def Kd.isInt : Kd → Bool
  | .int => true
  | _ => false
inductive Kn (H : Hp) : V → Kd → Prop where
  | non : Kn H .non .non
  | bl (b : Bool) : Kn H (.bl b) .bl
  | int (i : Int) : Kn H (.int i) .int
  | str (x : Str) : Kn H (.str x) .str
  | tup {a : Addr} {xs : List V} (h : H a = some (.tup xs)) : Kn H (.ref a) .tup
  | lst {a : Addr} {xs : List V} (h : H a = some (.lst xs)) : Kn H (.ref a) .lst
  | dic {a : Addr} {kvs : List (Key × V)} (h : H a = some (.dK kvs)) : Kn H (.ref a) .dic
theorem Kn.ex {H H' : Hp} {x : V} {k : Kd} (h : Kn H x k) (e : Evl.Ex H H') : Kn H' x k := by
  cases h with
  | non => exact .non
  | bl b => exact .bl b
  | int i => exact .int i
  | str x => exact .str x
  | tup h => exact .tup (e _ _ h)
  | lst h => exact .lst (e _ _ h)
  | dic h => exact .dic (e _ _ h)
theorem Kn.ty {K : PySem.W.Frag} {H : Hp} {x : V} {k : Kd} (h : Kn H x k) : TyX K H x (.type k.nm) := by
  cases h with
  | non => exact .base .non
  | bl b => exact .base (.bl b)
  | int i => exact .base (.int i)
  | str x => exact .base (.str x)
  | tup h => exact .base (.tup h)
  | lst h => exact .base (.lst h)
  | dic h => exact .base (.dK h)
theorem kd_int (K : PySem.W.Frag) (k : Kd) : PySem.W.kitOne K (.type k.nm) (.type "int") = some (k.isInt || k == .bl) := by
  cases k <;> exact kit_ty (by decide +kernel)
theorem kd_bool (K : PySem.W.Frag) (k : Kd) : PySem.W.kitOne K (.type k.nm) (.type "bool") = some (k == .bl) := by
  cases k <;> exact kit_ty (by decide +kernel)
theorem kd_tup (K : PySem.W.Frag) (k : Kd) : PySem.W.kitOne K (.type k.nm) (.type "tuple") = some (k == .tup) := by
  cases k <;> exact kit_ty (by decide +kernel)
def spWhole : Sp := fun vs H Q _ => ∃ (x : V) (k : Kd), vs = [x] ∧ Kn H x k ∧ Q (.bl k.isInt) H
/-- is_fraction's answers -/
inductive FrQ (H : Hp) : V → Bool → Prop where
  | no {x : V} {k : Kd} : Kn H x k → (k == .tup) = false → FrQ H x false
  | len {a : Addr} {xs : List V} : H a = some (.tup xs) → xs.length ≠ 2 → FrQ H (.ref a) false
  | two {a : Addr} {x y : V} {k l : Kd} : H a = some (.tup [x, y]) → Kn H x k → Kn H y l → (k.isInt && l.isInt) = false → FrQ H (.ref a) false
  | int {a : Addr} {t b : Int} : H a = some (.tup [.int t, .int b]) → FrQ H (.ref a) (decide (1 ≤ b) && decide (((Nat.gcd t.natAbs b.natAbs : Nat) : Int) = 1))
def spIsFr : Sp := fun vs H Q _ => ∃ (x : V) (b : Bool), vs = [x] ∧ FrQ H x b ∧ Q (.bl b) H
/-- fraction: E at the class C where there is none -/
def spFraction (C : Addr) : Sp := fun vs H Q E => ∃ (x y : V) (k l : Kd), vs = [x, y] ∧ Kn H x k ∧ Kn H y l ∧
  ((k.isInt && l.isInt) = false → E (.ref C) none H) ∧
  ∀ t b : Int, x = .int t → y = .int b → (b = 0 → E (.ref C) none H) ∧ (b ≠ 0 → t.natAbs < 2 ^ 8000 ∧ b.natAbs < 2 ^ 8000 ∧ ∀ p H', H p = none → Evl.Ex H H' → H' p = some (frV (fr t b)) → Q (.ref p) H')

theorem ne_of_test {i j : Int} (h : ¬ (!decide (V.int i = V.int j)) = true) : i = j := by
  by_cases e : V.int i = V.int j
  · exact V.int.inj e
  · rw [decide_eq_false e] at h
    exact absurd rfl h
theorem eq_of_test {i j : Int} (h : decide (V.int i = V.int j) = true) : i = j := V.int.inj (of_decide_eq_true h)
theorem eq_of_test' {i j : Int} (h : ¬ decide (V.int i = V.int j) = true) : i ≠ j := fun e => h (decide_eq_true (by rw [e]))
theorem dec_int {i j : Int} : decide (V.int i = V.int j) = decide (i = j) := by
  by_cases e : i = j
  · subst e
    rw [decide_eq_true rfl, decide_eq_true rfl]
  · rw [decide_eq_false e, decide_eq_false (fun z => e (V.int.inj z))]
theorem passX0 {X : Cx} : Passes (L2.CX X.prog X.w) X E0 := by
  intro pins σ H s e s' I h
  obtain ⟨a, B, H', cls, d, _, _, _, _, _, _, _, z⟩ := h
  exact z.elim
def refused : Str := "refused"
def frD (x : Int × Int) : PyData := .tuple [.int x.1, .int x.2]
theorem dp_fr {K : PySem.W.Frag} {H : Hp} {p : Addr} {x : Int × Int} (h : H p = some (frV x)) : Dp K H (.ref p) (frD x) := .tup (SqT.of h) (.cons (.int _) (.cons (.int _) .nil))
theorem okd_fr {x : Int × Int} {k : Nat} (h1 : x.1.natAbs < 2 ^ k) (h2 : x.2.natAbs < 2 ^ k) (h0 : 0 < k) (hk : k ≤ 1000) : Okd (frD x) (k + 1 + (k + 1 + 0)) (max 0 (max 0 0) + 1) := okd_tup (oka_cons (okd_int h1 h0 hk) (oka_cons (okd_int h2 h0 hk) oka_nil))
/-- what _law_made tells -/
inductive MadeQ : V → V → Kd → Kd → Str → Prop where
  | odd {x y : V} {k l : Kd} : (k.isInt && l.isInt) = false → MadeQ x y k l refused
  | zero {t : Int} : MadeQ (.int t) (.int 0) .int .int refused
  | fr {t b : Int} : b ≠ 0 → t.natAbs < 2 ^ 400 → b.natAbs < 2 ^ 400 → MadeQ (.int t) (.int b) .int .int (frD (Qj.fr t b)).shown
def spMade : Sp := fun vs H Q _ => ∃ (x y : V) (k l : Kd) (r : Str), vs = [x, y] ∧ Kn H x k ∧ Kn H y l ∧ MadeQ x y k l r ∧ ∀ H', Evl.Ex H H' → Q (.str r) H'
def spNumber : Sp := fun vs H Q _ => ∃ (D : Addr) (k : Int), vs = [.ref D, .int k] ∧ DeckAt H D ∧ 0 ≤ k ∧ k < 4 ∧ ∀ (n : Int) (H' : Hp), n.natAbs ≤ 10 ^ 18 → Bu D H H' → DeckAt H' D → Q (.int n) H'
def spOdd : Sp := fun vs H Q _ => ∃ (D : Addr) (t b : Int), vs = [.ref D, .int t, .int b] ∧ DeckAt H D ∧ ∀ (x : V) (k : Kd) (H' : Hp), Kn H' x k → k.isInt = false → Bu D H H' → DeckAt H' D → Q x H'
def spTold : Sp := fun vs H Q _ => ∃ t b : Int, vs = [.int t, .int b] ∧ t.natAbs < 2 ^ 400 ∧ b.natAbs < 2 ^ 400 ∧ ∀ H', Evl.Ex H H' → Q (.bl (decide (1 ≤ b) && decide (((Nat.gcd t.natAbs b.natAbs : Nat) : Int) = 1))) H'
theorem pow_le8000 {n k : Nat} (h : n < 2 ^ k) (hk : k ≤ 8000) : n < 2 ^ 8000 := Nat.lt_of_lt_of_le h (Nat.pow_le_pow_right (by decide) hk)
theorem cr_reprK {X : Cx} (K : PySem.W.Frag) (hK : X.K = K) (hg : X.A.guards = some []) (hu : X.A.units + 64 < cLine) : CallR X (.builtin "repr") (rRepr K) := by
  subst hK
  exact cr_repr hg hu
theorem shaped_fr (x : Int × Int) : SeqAt.shaped (frD x) = true := by
  unfold frD SeqAt.shaped
  simp [PyData.canLay0, PyData.canLayAll0, PyData.depth, PyData.depthAll]
theorem eqv_fr (x y : Int × Int) : PyData.eqv (frD x) (frD y) = decide (x.1 = y.1 ∧ x.2 = y.2) := by
  unfold frD
  simp only [PyData.eqv, PyData.eqvAll]
  by_cases h1 : x.1 = y.1
  · by_cases h2 : x.2 = y.2
    · rw [h1, h2]; simp
    · simp [h1, h2]
  · simp [h1]
theorem num_le {v L : Int} (h0 : 0 ≤ v) (h1 : v < 2 * L + 1) (hL : L ≤ 10 ^ 18) : (v - L).natAbs ≤ 10 ^ 18 := by omega
theorem OkA.mono {ds : List PyData} {n m n' m' : Nat} (h : OkA ds n m) (a : n ≤ n') (b : m ≤ m') : OkA ds n' m' := ⟨h.sh, h.nd, h.lv, Nat.le_trans h.wt a, Nat.le_trans h.dp b⟩
theorem Okd.mono {d : PyData} {n m n' m' : Nat} (h : Okd d n m) (a : n ≤ n') (b : m ≤ m') : Okd d n' m' := ⟨h.sh, h.nd, h.lv, Nat.le_trans h.wt a, Nat.le_trans h.dp b⟩
theorem dpall_rep {K : PySem.W.Frag} {H : Hp} {b : Bool} : ∀ n : Nat, DpAll K H (List.replicate n (.bl b)) (List.replicate n (.bool b))
  | 0 => .nil
  | n + 1 => .cons (.bl b) (dpall_rep n)
theorem oka_rep {b : Bool} : ∀ n : Nat, OkA (List.replicate n (.bool b)) n 0
  | 0 => oka_nil
  | n + 1 => (oka_cons okd_bl (oka_rep n)).mono (by omega) (by decide)
theorem FrQ.ex {H H' : Hp} {x : V} {b : Bool} (h : FrQ H x b) (e : Evl.Ex H H') : FrQ H' x b := by
  cases h with
  | no k hn => exact .no (k.ex e) hn
  | len a hl => exact .len (e _ _ a) hl
  | two a hx hy hb => exact .two (e _ _ a) (hx.ex e) (hy.ex e) hb
  | int a => exact .int (e _ _ a)
def spRight : Sp := fun vs H Q _ => ∃ (D : Addr) (t b : Int), vs = [.ref D, .int t, .int b] ∧ DeckAt H D ∧ t.natAbs < 2 ^ 400 ∧ b.natAbs < 2 ^ 400 ∧ ∀ H', Bu D H H' → DeckAt H' D → Q (.bl true) H'
theorem made_any {t b : Int} (ht : t.natAbs < 2 ^ 400) (hb : b.natAbs < 2 ^ 400) : b ≠ 0 → MadeQ (.int t) (.int b) .int .int (frD (Qj.fr t b)).shown := fun h => .fr h ht hb
/-! ### lowest terms -/
theorem dvd_t (t b : Int) : ((Nat.gcd t.natAbs b.natAbs : Nat) : Int) ∣ t := Int.ofNat_dvd_left.mpr (Nat.gcd_dvd_left _ _)
theorem dvd_b (t b : Int) : ((Nat.gcd t.natAbs b.natAbs : Nat) : Int) ∣ b := Int.ofNat_dvd_left.mpr (Nat.gcd_dvd_right _ _)
theorem fdiv_pos {t g : Int} (hg : 0 < g) : t.fdiv g = t / g := Int.fdiv_eq_ediv_of_nonneg t (by omega)
theorem fdiv_neg {t g : Int} (hd : g ∣ t) : t.fdiv (-g) = -1 * t / g := by
  rw [Int.fdiv_eq_ediv_of_dvd (Int.neg_dvd.mpr hd), Int.ediv_neg, Int.neg_mul, Int.one_mul, Int.neg_ediv_of_dvd hd]
theorem gcd_one (t : Int) : Nat.gcd t.natAbs (1 : Int).natAbs = 1 := Nat.gcd_one_right _
theorem fr_one (t : Int) : fr t 1 = (t, 1) := by
  unfold fr
  rw [gcd_one, if_pos (by decide)]
  show (1 * t / 1, (1 : Int) * 1 / 1) = (t, 1)
  rw [Int.one_mul, Int.ediv_one]
  rfl
/-- what is told of a pair -/
theorem told_eq {t b : Int} (hb : 0 < b) : (decide (1 ≤ b) && decide (((Nat.gcd t.natAbs b.natAbs : Nat) : Int) = 1)) = decide ((fr t b).1 = t ∧ (fr t b).2 = b) := by
  rw [decide_eq_true (show 1 ≤ b by omega), Bool.true_and]
  by_cases h : ((Nat.gcd t.natAbs b.natAbs : Nat) : Int) = 1
  · rw [decide_eq_true h, eq_comm, decide_eq_true_eq]
    unfold fr
    rw [if_pos hb, h, Int.one_mul, Int.one_mul, Int.ediv_one, Int.ediv_one]
    exact ⟨rfl, rfl⟩
  · rw [decide_eq_false h, eq_comm, decide_eq_false_iff_not]
    rintro ⟨_, h2⟩
    unfold fr at h2
    rw [if_pos hb, Int.one_mul, Int.one_mul] at h2
    dsimp only at h2
    have d := dvd_b t b
    have e := Int.ediv_mul_cancel d
    rw [h2] at e
    have e2 : b * ((Nat.gcd t.natAbs b.natAbs : Nat) : Int) = b * 1 := by rw [e, Int.mul_one]
    exact h (Int.eq_of_mul_eq_mul_left (by omega) e2)
theorem fr_lt {t b : Int} {k : Nat} (hb : b ≠ 0) (h1 : t.natAbs < 2 ^ k) (h2 : b.natAbs < 2 ^ k) : (fr t b).1.natAbs < 2 ^ k ∧ (fr t b).2.natAbs < 2 ^ k := by
  have key : ∀ x : Int, x.natAbs < 2 ^ k → ((if 0 < b then 1 else -1) * x / ((Nat.gcd t.natAbs b.natAbs : Nat) : Int)).natAbs < 2 ^ k := by
    intro x hx
    refine Nat.lt_of_le_of_lt ?_ hx
    have e : ((if 0 < b then 1 else -1) * x).natAbs = x.natAbs := by
      split
      · rw [Int.one_mul]
      · rw [Int.neg_mul, Int.one_mul, Int.natAbs_neg]
    have l := Int.natAbs_ediv_le_natAbs ((if 0 < b then 1 else -1) * x) ((Nat.gcd t.natAbs b.natAbs : Nat) : Int)
    omega
  exact ⟨key t h1, key b h2⟩
end Qj
namespace Qj
open PySem PySem.Spec PyProof.Rows L2
/-! ### the end of a law whose def is promised where no guard stands -/
section
variable {P : Program} {w : World} {K : PySem.W.Frag} {mg mb : Str → Option Value} {CX : CXT} {k : Nat} {fa a : Addr} {fd : FuncData} {x : Str} {sp : Sp} {s1 : Shared} {us : List Value} {ns : List Int}
/-- the law runs from an abstract heap in which at most the script is tracked -/
theorem lawG_core (kin : K.In s1.heap) (g0 : s1.heap.Ns mainGlobals mg) (bn : s1.heap.Ns builtinsNs mb) (bb : ∀ y : Str, y ≠ "__name__" → mb y = bootBuiltins y) (nl : s1.heap.NoLimit) (gz : s1.gens = #[])
    (at_a : s1.heap.get? a = some { cls := .type "list", data := .seq us.toArray }) (rm : Room k callerA)
    (F : ∀ base : Heap, K.In base → base.Ns mainGlobals mg → FnG P w K mg base CX k fa fd [x] sp) (bind : ∀ (s : Shared) (u : Value), BindsTo s fd ⟨[u], []⟩ [(x, u)])
    (H : Hp) (only : Only H) (hsp : sp [.ref a] H (fun v _ => v = .bl true) fun _ _ _ => False) (hok : HOk P w H s1.heap) (own : ∀ b, H b ≠ none → b = a) (outK : H a ≠ none → K.lookup a = none)
    (noX : ∀ e s2, CX [] H s1 (fun _ _ _ => False) e s2 → False) :
    codeAny (model P w) callerA (.call (.ref fa) ⟨[.ref a], []⟩) (fun r s2 => r = .ok (.ret (.bool true)) ∧ OldK s1.heap s2.heap ∧ s2.os = s1.os ∧ AllBare s2.gens) s1 := by
  have isA : ∀ {b : Addr} {u : HO}, H b = some u → b = a := fun {b u} z => own b (by rw [z]; exact fun c => by cases c)
  have untr : ∀ {b : Addr} {o : Obj} {es : Array DictEntry} {ep : Nat}, s1.heap.get? b = some o → o.data = .dict es ep → H b = none := by
    intro b o es ep z dd
    cases hb : H b with
    | none => rfl
    | some u =>
      cases isA hb
      rw [at_a] at z
      cases z
      cases (show Data.seq us.toArray _ = Data.dict es ep from dd)
  have nsT : ∀ {b : Addr} {m : Str → Option Value}, s1.heap.Ns b m → (hidT s1.heap H).Ns b m := by
    intro b m z
    obtain ⟨o, es, ep, z1, z2, z3⟩ := z
    exact ⟨o, es, ep, hidT_get z1 (untr z1 z2), z2, z3⟩
  have kinT : K.In (hidT s1.heap H) := by
    intro b o z
    refine hidT_get (kin b o z) ?_
    cases hb : H b with
    | none => rfl
    | some u =>
      cases isA hb
      rw [outK (by rw [hb]; exact fun c => by cases c)] at z
      cases z
  have md : Mod K mg (hidT s1.heap H) := by
    refine ⟨kinT, nsT g0, ⟨mb, nsT bn, bb⟩, ?_⟩
    obtain ⟨mc, c1, c2⟩ := nl
    exact ⟨mc, nsT c1, c2⟩
  have env : Env0 P w K mg (hidT s1.heap H) callerA [] s1 H := by
    refine ⟨rfl, md, fun b o z => of_hidT z, Nat.le_of_eq (hidT_size _ _), trivial, fun b hb => ?_, hok, .of_eq gz⟩
    cases (show b ∈ ([] : List Addr) from hb)
  have run := (F _ kinT (nsT g0)).go callerA [] s1 H ⟨[.ref a], []⟩ [.ref a] [.ref a] _ _ rm rfl env (bind s1 (.ref a)) (.cons rfl .nil) hsp
  refine codeAny_mono run (fun r s2 z => ?_)
  cases r with
  | error e => exact (noX e s2 z).elim
  | ok fl =>
    cases fl with
    | next => exact z.elim
    | brk => exact z.elim
    | cont => exact z.elim
    | ret u =>
      obtain ⟨v, G, os, bare, un, ok2, rv, q⟩ := z
      cases (show v = .bl true from q)
      cases (show u = Value.bool true from rv)
      refine ⟨rfl, OldK.of_keep (fun b o z => ?_), os, bare⟩
      cases hb : H b with
      | none => exact un.keep b o z hb (fun c => by cases (show b ∈ ([] : List Addr) from c)) (fun c => by cases c)
      | some u =>
        obtain c | ⟨ob, xs, c⟩ := only b
        · rw [hb] at c
          cases c
        · have c2 := un.frzs b ob _ c
          have p1 := (hok b _ c).1
          have p2 := (ok2 b _ c2).1
          rw [z] at p1
          cases p1
          exact p2
theorem lawG (kin : K.In s1.heap) (g0 : s1.heap.Ns mainGlobals mg) (bn : s1.heap.Ns builtinsNs mb) (bb : ∀ y : Str, y ≠ "__name__" → mb y = bootBuiltins y) (nl : s1.heap.NoLimit) (gz : s1.gens = #[])
    (at_a : s1.heap.get? a = some { cls := .type "list", data := .seq us.toArray }) (hints : IntsAre us ns) (hl : ns.length ≤ sizeLine) (rm : Room k callerA)
    (F : ∀ base : Heap, K.In base → base.Ns mainGlobals mg → FnG P w K mg base CX k fa fd [x] sp) (bind : ∀ (s : Shared) (u : Value), BindsTo s fd ⟨[u], []⟩ [(x, u)])
    (hsp : ∀ H : Hp, Only H → SqL K H a (ns.map V.int) → sp [.ref a] H (fun v _ => v = .bl true) fun _ _ _ => False) (noX : ∀ H e s2, CX [] H s1 (fun _ _ _ => False) e s2 → False) :
    codeAny (model P w) callerA (.call (.ref fa) ⟨[.ref a], []⟩) (fun r s2 => r = .ok (.ret (.bool true)) ∧ OldK s1.heap s2.heap ∧ s2.os = s1.os ∧ AllBare s2.gens) s1 := by
  have rel := vals_ints hints
  have lu := hints.length
  cases kl : K.lookup a with
  | some o =>
    have z := kin a o kl
    rw [at_a] at z
    cases z
    have only : Only (fun _ => none) := fun b => Or.inl rfl
    have sq : SqL K (fun _ => none) a (ns.map V.int) := Or.inr ⟨_, us.toArray, _, kl, rfl, rfl, rfl, by rw [List.size_toArray, lu]; exact hl, by simpa using rel⟩
    exact lawG_core kin g0 bn bb nl gz at_a rm F bind (fun _ => none) only (hsp _ only sq) (fun b u c => by cases c) (fun b c => absurd rfl c) (fun c => absurd rfl c) (noX _)
  | none =>
    let T : Hp := fun b => if b = a then some (.frz { cls := .type "list", data := .seq us.toArray } (.lst (ns.map V.int))) else none
    have atT : T a = some (.frz { cls := .type "list", data := .seq us.toArray } (.lst (ns.map V.int))) := if_pos rfl
    have offT : ∀ b, b ≠ a → T b = none := fun b h => if_neg h
    have only : Only T := by
      intro b
      by_cases h : b = a
      · subst h
        exact Or.inr ⟨_, _, atT⟩
      · exact Or.inl (offT b h)
    have sq : SqL K T a (ns.map V.int) := Or.inl (Or.inr ⟨_, atT⟩)
    refine lawG_core kin g0 bn bb nl gz at_a rm F bind T only (hsp _ only sq) (fun b u c => ?_) (fun b c => ?_) (fun _ => kl) (noX _)
    · by_cases h : b = a
      · subst h
        rw [atT] at c
        cases c
        exact ⟨at_a, by rw [List.length_map]; exact hl, us, _, rel, at_a⟩
      · rw [offT b h] at c
        cases c
    · by_cases h : b = a
      · exact h
      · exact absurd (offT b h) c
end
theorem walk_ofG {l : PySem.W.OpenLaw} {n k : Nat} {q : Program} {loose : List Str} {XP : (Str → Option Value) → Heap → Prop} {YP : World → Heap → Prop} {d : DefRec} {K : Params → PySem.W.Frag} {CX : CXT} {sp : PySem.W.Frag → Sp} {x : Str}
    (most : l.most = some n) (small : n ≤ sizeLine) (nodf : d.params.defaults = []) (rm : Room k callerA) (toK : ∀ (w : World) (h : Heap), YP w h → (K w.params).In h)
    (F : ∀ (w : World) (mg : Str → Option Value) (fa : Addr) (h : Heap), (K w.params).In h → h.Ns mainGlobals mg → mg d.name = some (.ref fa) →
      ∃ fd : FuncData, (∀ (s : Shared) (u : Value), BindsTo s fd ⟨[u], []⟩ [(x, u)]) ∧ ∀ base : Heap, (K w.params).In base → base.Ns mainGlobals mg → FnG l.prog w (K w.params) mg base CX k fa fd [x] (sp (K w.params)))
    (hsp : ∀ (K : PySem.W.Frag) (H : Hp) (a : Addr) (ns : List Int), ns.length ≤ n → Only H → SqL K H a (ns.map V.int) → sp K [.ref a] H (fun v _ => v = .bl true) fun _ _ _ => False)
    (noX : ∀ (H : Hp) (s : Shared) (e : Value) (s2 : Shared), CX [] H s (fun _ _ _ => False) e s2 → False) : PySem.W.WalkO q loose XP YP l.row.toRowW d [] (fun f vs => PySem.call f vs) := by
  refine Att.attach_call most nodf ?_
  intro w s0 s1 mg mb fa o pm cd doc a us ns G Y ho hd hcd hmg hobj hi2 hlen gz
  obtain ⟨fd, bind, hF⟩ := F w mg fa _ (toK w _ Y) G.T.g hmg
  exact lawG (toK w _ Y) G.T.g G.T.b G.T.builtins G.T.nolimit gz hobj hi2 (Nat.le_trans hlen small) rm hF bind (fun H h1 h2 => hsp _ H a ns hlen h1 h2) (fun H e s2 => noX H s1 e s2)
end Qj
namespace K1
open PySem PySem.Spec PyProof.Rows L2 Qj
def topS (i : Nat) : Stmt := PySem.Challenge.pw_offscale_k01_fractions_made.main.body.getD i (.Pass ⟨0, 0, 0, 0⟩)
abbrev s_is_whole : Stmt := topS 5
theorem sc_is_whole : FnScope ["value"] ["value"] (defScope s_is_whole) := ⟨rfl, rfl, rfl, by decide +kernel, rfl, by decide +kernel, by decide +kernel⟩
abbrev s_is_fraction : Stmt := topS 6
theorem sc_is_fraction : FnScope ["value", "top", "bottom"] ["value"] (defScope s_is_fraction) := ⟨rfl, rfl, rfl, by decide +kernel, rfl, by decide +kernel, by decide +kernel⟩
abbrev s_fraction : Stmt := topS 7
theorem sc_fraction : FnScope ["top", "bottom"] ["top", "bottom"] (defScope s_fraction) := ⟨rfl, rfl, rfl, by decide +kernel, rfl, by decide +kernel, by decide +kernel⟩
abbrev s__lowest : Stmt := topS 8
theorem sc__lowest : FnScope ["top", "bottom", "divisor"] ["top", "bottom"] (defScope s__lowest) := ⟨rfl, rfl, rfl, by decide +kernel, rfl, by decide +kernel, by decide +kernel⟩
abbrev s__law_deck : Stmt := topS 10
theorem sc__law_deck : FnScope ["_law_script", "_law_great", "_law_small", "_law_cell"] ["_law_script"] (defScope s__law_deck) := ⟨rfl, rfl, rfl, by decide +kernel, rfl, by decide +kernel, by decide +kernel⟩
abbrev s__law_take : Stmt := topS 11
theorem sc__law_take : FnScope ["_law_deck_here", "_law_limit", "_law_digit", "_law_mixed"] ["_law_deck_here", "_law_limit"] (defScope s__law_take) := ⟨rfl, rfl, rfl, by decide +kernel, rfl, by decide +kernel, by decide +kernel⟩
abbrev s__law_frac : Stmt := topS 12
theorem sc__law_frac : FnScope ["_law_top", "_law_bottom", "_law_one", "_law_other", "_law_sign"] ["_law_top", "_law_bottom"] (defScope s__law_frac) := ⟨rfl, rfl, rfl, by decide +kernel, rfl, by decide +kernel, by decide +kernel⟩
abbrev s__law_plus : Stmt := topS 13
theorem sc__law_plus : FnScope ["_law_one", "_law_other"] ["_law_one", "_law_other"] (defScope s__law_plus) := ⟨rfl, rfl, rfl, by decide +kernel, rfl, by decide +kernel, by decide +kernel⟩
abbrev s__law_minus : Stmt := topS 14
theorem sc__law_minus : FnScope ["_law_one", "_law_other"] ["_law_one", "_law_other"] (defScope s__law_minus) := ⟨rfl, rfl, rfl, by decide +kernel, rfl, by decide +kernel, by decide +kernel⟩
abbrev s__law_times : Stmt := topS 15
theorem sc__law_times : FnScope ["_law_one", "_law_other"] ["_law_one", "_law_other"] (defScope s__law_times) := ⟨rfl, rfl, rfl, by decide +kernel, rfl, by decide +kernel, by decide +kernel⟩
abbrev s__law_part : Stmt := topS 16
theorem sc__law_part : FnScope ["_law_one"] ["_law_one"] (defScope s__law_part) := ⟨rfl, rfl, rfl, by decide +kernel, rfl, by decide +kernel, by decide +kernel⟩
abbrev s__law_number : Stmt := topS 17
theorem sc__law_number : FnScope ["_law_deck_here", "_law_kind", "_law_limit"] ["_law_deck_here", "_law_kind"] (defScope s__law_number) := ⟨rfl, rfl, rfl, by decide +kernel, rfl, by decide +kernel, by decide +kernel⟩
abbrev s__law_fraction : Stmt := topS 18
theorem sc__law_fraction : FnScope ["_law_deck_here", "_law_kind"] ["_law_deck_here"] (defScope s__law_fraction) := ⟨rfl, rfl, rfl, by decide +kernel, rfl, by decide +kernel, by decide +kernel⟩
abbrev s__law_made : Stmt := topS 19
theorem sc__law_made : FnScope ["_law_top", "_law_bottom", "_law_found"] ["_law_top", "_law_bottom"] (defScope s__law_made) := ⟨rfl, rfl, rfl, by decide +kernel, rfl, by decide +kernel, by decide +kernel⟩
abbrev s__law_odd : Stmt := topS 20
theorem sc__law_odd : FnScope ["_law_deck_here", "_law_top", "_law_bottom", "_law_odd_here"] ["_law_deck_here", "_law_top", "_law_bottom"] (defScope s__law_odd) := ⟨rfl, rfl, rfl, by decide +kernel, rfl, by decide +kernel, by decide +kernel⟩
abbrev s__law_told : Stmt := topS 21
theorem sc__law_told : FnScope ["_law_top", "_law_bottom"] ["_law_top", "_law_bottom"] (defScope s__law_told) := ⟨rfl, rfl, rfl, by decide +kernel, rfl, by decide +kernel, by decide +kernel⟩
abbrev s__law_right : Stmt := topS 22
theorem sc__law_right : FnScope ["_law_deck_here", "_law_top", "_law_bottom", "_law_due", "_law_odd_here", "_law_wrong", "_law_one"] ["_law_deck_here", "_law_top", "_law_bottom"] (defScope s__law_right) := ⟨rfl, rfl, rfl, by decide +kernel, rfl, by decide +kernel, by decide +kernel⟩
abbrev s_law : Stmt := topS 23
theorem sc_law : FnScope ["_law_script", "_law_deck_here", "_law_turn", "_law_kind", "_law_top", "_law_bottom"] ["_law_script"] (defScope s_law) := ⟨rfl, rfl, rfl, by decide +kernel, rfl, by decide +kernel, by decide +kernel⟩
/-- what the top has written -/
structure Txt (K : PySem.W.Frag) (mg : Str → Option Value) where
  is_whole : Def K mg "is_whole" s_is_whole ["value"]
  is_fraction : Def K mg "is_fraction" s_is_fraction ["value"]
  frF : Addr
  frD : FuncData
  frFun : FunD K "fraction" "fraction" (defArgs s_fraction) (defBody s_fraction) (defScope s_fraction) [.int 1] [] frF frD
  frG : mg "fraction" = some (.ref frF)
  C : Addr
  gC : mg "NoFraction" = some (.ref C)
  kC : PySem.W.keepIn K (.ref C) = true
  xC : PySem.W.excIn K C [.type "ValueError", .type "Exception", .type "BaseException", .type "object"] "ValueError.__new__" = true
  bC : PySem.W.subIn K (.ref C) (.type "BaseException") = some true
  tC : PySem.W.typeIn K (.ref C) = some (.type "type")
  eC : PySem.W.exmOne K (.ref C) (.ref C) = some true
  _lowest : Def K mg "_lowest" s__lowest ["top", "bottom"]
  _law_deck : Def K mg "_law_deck" s__law_deck ["_law_script"]
  _law_take : Def K mg "_law_take" s__law_take ["_law_deck_here", "_law_limit"]
  _law_frac : Def K mg "_law_frac" s__law_frac ["_law_top", "_law_bottom"]
  _law_number : Def K mg "_law_number" s__law_number ["_law_deck_here", "_law_kind"]
  _law_made : Def K mg "_law_made" s__law_made ["_law_top", "_law_bottom"]
  _law_odd : Def K mg "_law_odd" s__law_odd ["_law_deck_here", "_law_top", "_law_bottom"]
  _law_told : Def K mg "_law_told" s__law_told ["_law_top", "_law_bottom"]
  _law_right : Def K mg "_law_right" s__law_right ["_law_deck_here", "_law_top", "_law_bottom"]
  law : Def K mg "law" s_law ["_law_script"]
  m_abs : mg "abs" = none
  m_bool : mg "bool" = none
  m_int : mg "int" = none
  m_isinstance : mg "isinstance" = none
  m_len : mg "len" = none
  m_range : mg "range" = none
  m_repr : mg "repr" = none
  m_str : mg "str" = none
  m_tuple : mg "tuple" = none
  g_gcd : mg "gcd" = some (.builtin "math.gcd")
theorem Txt.b2 {K : PySem.W.Frag} {mg : Str → Option Value} (T : Txt K mg) : Binds K T.frD ["top", "bottom"] [] := by
  obtain ⟨ds, r, b⟩ := T.frFun.binds1 (ps := ["top", "bottom"]) 2 1 (by decide) rfl (fun _ _ _ _ _ _ _ us its hu hi => match us, its, hu, hi with | [_, _], [_], _, _ => ⟨_, rfl, rfl⟩)
  cases r
  exact b
theorem Txt.b1 {K : PySem.W.Frag} {mg : Str → Option Value} (T : Txt K mg) : ∃ ds, Vals [V.int 1] ds ∧ Binds K T.frD ["top", "bottom"] ds :=
  T.frFun.binds1 (ps := ["top", "bottom"]) 1 0 (by decide) rfl (fun _ _ _ _ _ _ _ us its hu hi => match us, its, hu, hi with | [_], [_], _, _ => ⟨_, rfl, rfl⟩)
end K1
namespace K1
open PySem PySem.Spec PyProof.Rows L2 Qj
local macro_rules | `(tactic| walk_at "go") => `(tactic| repeat (first
  | (refine ⟨_, rfl, ?_⟩)
  | (refine ⟨_, _, rfl, rfl, ?_⟩)
  | (refine ⟨_, _, rfl, ?_⟩)
  | (refine ⟨_, _, _, _, rfl, rfl, SqL.of (by assumption), rfl, ?_⟩)
  | (refine ⟨_, _, _, _, rfl, rfl, SqL.of upd_same, rfl, ?_⟩)
  | (refine ⟨_, _, _, _, rfl, rfl, SqT.of (by assumption), rfl, ?_⟩)
  | (refine ⟨_, _, _, _, rfl, rfl, SqT.of upd_same, rfl, ?_⟩)
  | (refine ⟨_, _, _, _, rfl, rfl, (by assumption), rfl, ?_⟩)
  | (refine ⟨_, _, _, _, rfl, rfl, upd_same, rfl, ?_⟩)
  | (refine ⟨_, _, rfl, Or.inl (by assumption), ?_⟩)
  | (refine ⟨_, _, rfl, Or.inr (SqT.of (by assumption)), ?_⟩)
  | (refine ⟨_, _, rfl, Or.inr (SqT.of upd_same), ?_⟩)
  | (refine ⟨_, _, rfl, Or.inl (SqL.of (by assumption)), ?_⟩)
  | (refine ⟨_, _, rfl, SqT.of (by assumption), rfl, ?_⟩)
  | (refine ⟨_, _, rfl, Kn.int _, ?_⟩)
  | (refine ⟨_, _, rfl, (by assumption : Kn _ _ _), ?_⟩)
  | (refine iteNS rfl ?_)
  | (refine iteF ?_)
  | (refine iteT ?_)
  | (refine Or.inl ⟨_, rfl, ?_⟩)
  | (refine Or.inr ⟨_, rfl, ?_⟩)
  | (refine And.intro sz4 ?_)
  | (refine And.intro (by first | exact rfl | assumption | decide | (show (0 : Int) < _; decide) | exact wide_div (b := 63) (by assumption) (by omega) (by decide) (by decide) | exact wide_div (b := 63) (by decide) (by decide) (by decide) (by decide) | exact Or.inl ⟨by decide, by decide⟩ | exact Or.inr ⟨by decide, by decide⟩ | exact ⟨by decide, by decide, by decide⟩ | exact Or.inl ⟨by omega, by omega⟩ | exact Or.inr ⟨by omega, by omega⟩) ?_)))
section
variable {P : Program} {w : World} {K : PySem.W.Frag} {mg : Str → Option Value} {base : Heap}
theorem ok__law_take (T : Txt K mg) : FnOk P w K mg base CX0 1 T._law_take.f T._law_take.fd ["_law_deck_here", "_law_limit"] spTake := by
  refine T._law_take.F.ok sc__law_take (fun vs H Q E h => ?_) (fun cdv A outer s H vs Q E hr h => ?_)
  · obtain ⟨D, lim, rfl, _⟩ := h
    rfl
  obtain ⟨D, lim, rfl, ⟨g, m, c, hD, hm1, hm2⟩, hl, hl2, q⟩ := h
  have nd := sc__law_take.nd
  refine ⟨_, (pss_cons (ps_if (pt_cmpR op_gt (pe_ix ix_list (pv 0) pe_int (fun _ _ => rfl)) pe_int (nomark _))
        (pss_cons (ps_set (i := 2) nd rfl (.inl rfl) (pe_op op_mod (pe_callTy call_int1 (by rfl) T.m_int boot_int (pa_cons (pe_ix ix_list (pv 0) pe_int (fun _ _ => rfl)) pa_nil)) (pv 1)))
        (pss_cons (ps_asg (pe_op op_fdivW (pe_ix ix_list (pv 0) pe_int (fun _ _ => rfl)) (pv 1)) (pg_sub (pv 0) pe_int set_list))
        (pss_one (ps_ret (pv 2)))))
        pss_nil)
      (pss_cons (ps_asg (pe_op op_add (pe_ix ix_list (pv 0) pe_int (fun _ _ => rfl)) pe_int) (pg_sub (pv 0) pe_int set_list))
      (pss_cons (ps_set (i := 3) nd rfl (.inl rfl) (pe_op op_add (pe_op op_mul (pe_ix ix_list (pv 0) pe_int (fun _ _ => rfl)) pe_int) (pe_op op_mul pe_int (pe_ix ix_list (pv 0) pe_int (fun _ _ => rfl)))))
      (pss_cons (ps_asg (pe_op op_mod (pe_callTy call_int1 (by rfl) T.m_int boot_int (pa_cons (pv 3) pa_nil)) pe_int) (pg_sub (pv 0) pe_int set_list))
      (pss_one (ps_ret (pe_op op_mod (pe_op op_fdivW (pe_op op_mod (pe_callTy call_int1 (by rfl) T.m_int boot_int (pa_cons (pe_op op_mul (pe_ix ix_list (pv 0) pe_int (fun _ _ => rfl)) (pe_ix ix_list (pv 0) pe_int (fun _ _ => rfl))) pa_nil)) pe_int) pe_int) (pv 1)))))))), ?_⟩
  walk_at "go"
  refine ite2 (fun hg => ?_) (fun hg => ?_)
  · walk_at "go"
    exact q _ _ (Int.emod_nonneg _ (by omega)) (Int.emod_lt_of_pos _ hl) Bu.upd ⟨_, _, _, upd_same, hm1, hm2⟩
  · walk_at "go"
    have b0 := Int.emod_nonneg (m * 2862933555777941757 + 3037000493 * (c + 1)) (b := 2305843009213693951) (by decide)
    have b1 := Int.emod_lt_of_pos (m * 2862933555777941757 + 3037000493 * (c + 1)) (b := 2305843009213693951) (by decide)
    exact q _ _ (Int.emod_nonneg _ (by omega)) (Int.emod_lt_of_pos _ hl) (Bu.upd.trans Bu.upd) ⟨_, _, _, upd_same, by omega, by omega⟩
theorem ok__law_deck (T : Txt K mg) : FnOk P w K mg base CX0 1 T._law_deck.f T._law_deck.fd ["_law_script"] (spDeck K) := by
  refine T._law_deck.F.ok sc__law_deck (fun vs H Q E h => ?_) (fun cdv A outer s H vs Q E hr h => ?_)
  · obtain ⟨a, ns, rfl, _⟩ := h
    rfl
  obtain ⟨a, ns, rfl, hS, hlen, q⟩ := h
  have nd := sc__law_deck.nd
  refine ⟨_, (pss_cons (ps_par (i := 1) (j := 2) rfl nd rfl rfl (by decide) rfl rfl (pa_cons pe_int (pa_cons (pe_op op_add pe_int (pe_op op_mul pe_int (pe_callB call_len_seq (by rfl) T.m_len (by decide +kernel) (pa_cons (pv 0) pa_nil)))) pa_nil)) (by rfl))
      (pss_cons (ps_for PassesOwn.never rfl (pi_list (pe_slice sl_list (pv 0) po_none (po_some pe_int))) (pg_name (i := 3) nd rfl (.inl rfl))
        (pss_one (ps_if (pt_cmpR op_ge (pv 3) (pe_op op_pow pe_int pe_int) (nomark _))
          (pss_one (ps_set (i := 1) nd rfl (.inl rfl) (pe_op op_sub (pe_op op_add (pe_op op_mul (pv 1) pe_int) (pv 3)) (pe_op op_pow pe_int pe_int))))
          (pss_cons (ps_set (i := 2) nd rfl (.inl rfl) (pe_op op_add (pe_op op_mul (pv 2) pe_int) (pe_op op_mul pe_int (pe_callB call_abs (by rfl) T.m_abs (by decide +kernel) (pa_cons (pv 3) pa_nil)))))
          (pss_one (ps_set (i := 2) nd rfl (.inl rfl) (pe_op op_mod (pe_callTy call_int1 (by rfl) T.m_int boot_int (pa_cons (pe_op op_add (pv 2) (pe_callTy call_int1 (by rfl) T.m_int boot_int (pa_cons (pe_cmpR op_lt (pv 3) pe_int (nomark _)) pa_nil))) pa_nil)) pe_int)))))))
      (pss_one (ps_ret (pe_lst (pa_cons (pv 1) (pa_cons (pv 2) (pa_cons pe_int pa_nil)))))))), ?_⟩
  walk_at "go"
  refine ⟨a, _, rfl, hS, fun c nc => ?_⟩
  refine ⟨c, rfl, ⟨_, SqL.of upd_same⟩, for_list (xs := cutV (ns.map V.int) none (some 63)) (fun i σ H3 => ∃ (g m : Int) (y : Option V), σ = [some (.ref a), some (.int g), some (.int m), y] ∧ -(2 ^ 62) < m ∧ m < 2 ^ 62 ∧ H3 = upd H c (.lst (cutV (ns.map V.int) none (some 63)))) ?_ ?_ ?_ ?_⟩
  · refine ⟨_, _, _, rfl, ?_, ?_, rfl⟩
    · rw [List.length_map]; omega
    · rw [List.length_map]; omega
  · rintro i σ H3 hi ⟨g, m, y, rfl, _, _, rfl⟩
    exact SqL.of upd_same
  · rintro i x σ H3 hx ⟨g, m, y, rfl, h1, h2, rfl⟩
    obtain ⟨n, rfl⟩ := cut_int hx
    walk_at "go"
    refine ite2 (fun hg => ?_) (fun hg => ?_)
    · walk_at "go"
      exact ⟨_, _, _, rfl, h1, h2, rfl⟩
    · walk_at "go"
      exact ⟨_, _, _, rfl, by omega, by omega, rfl⟩
  · rintro σ H3 ⟨g, m, y, rfl, h1, h2, rfl⟩
    walk_at "go"
    intro D nD
    have nD2 : upd H c (.lst (cutV (ns.map V.int) none (some 63))) D = none := nD
    exact q D _ (Evl.fresh_back (ex_new nc) nD2) ((ex_new nc).trans (ex_new nD2)) ⟨_, _, _, upd_same, h1, h2⟩
theorem ok__law_frac (T : Txt K mg) : FnOk P w K mg base CX0 1 T._law_frac.f T._law_frac.fd ["_law_top", "_law_bottom"] spFrac := by
  refine T._law_frac.F.ok sc__law_frac (fun vs H Q E h => ?_) (fun cdv A outer s H vs Q E hr h => ?_)
  · obtain ⟨t, b, rfl, _⟩ := h
    rfl
  obtain ⟨t, b, rfl, hb0, ht, hb, q⟩ := h
  have nd := sc__law_frac.nd
  refine ⟨_, (pss_cons (ps_par (i := 2) (j := 3) rfl nd rfl rfl (by decide) rfl rfl (pa_cons (pe_callB call_abs (by rfl) T.m_abs (by decide +kernel) (pa_cons (pv 0) pa_nil)) (pa_cons (pe_callB call_abs (by rfl) T.m_abs (by decide +kernel) (pa_cons (pv 1) pa_nil)) pa_nil)) (by rfl))
      (pss_cons (ps_while PassesOwn.never (pt_cmpR op_gt (pv 3) pe_int (nomark _))
        (pss_one (ps_par (i := 2) (j := 3) rfl nd rfl rfl (by decide) rfl rfl (pa_cons (pv 3) (pa_cons (pe_op op_mod (pe_callTy call_int1 (by rfl) T.m_int boot_int (pa_cons (pv 2) pa_nil)) (pv 3)) pa_nil)) (by rfl))))
      (pss_cons (ps_set (i := 4) nd rfl (.inl rfl) (pe_ifExp (pt_cmpR op_gt (pv 1) pe_int (nomark _)) pe_int (pe_un un_neg pe_int)))
      (pss_one (ps_ret (pe_tup (pa_cons (pe_op op_fdivW (pe_op op_mul (pv 4) (pv 0)) (pv 2)) (pa_cons (pe_op op_fdivW (pe_op op_mul (pv 4) (pv 1)) (pv 2)) pa_nil)))))))), ?_⟩
  walk_at "go"
  have G0 := gcd_pos t hb0
  have G1 := gcd_lt t hb0 hb
  refine ⟨WF t b H, ⟨_, _, _, rfl, ?_, ?_, ?_, rfl, rfl⟩, fun m σ H' hW => ?_⟩
  · split <;> omega
  · split <;> omega
  · exact gcd_abs t b
  obtain ⟨x, y, rfl, hx, hy, hxy, rfl, rfl⟩ := hW
  walk_at "go"
  refine ite2 (fun hg => ?_) (fun hg => ?_)
  · have hy0 : 0 < y := of_decide_eq_true hg
    refine ⟨fun σ' H'' => ∃ m', m' < y.natAbs ∧ WF t b H' m' σ' H'', fun σ' H'' n => n, ?_⟩
    walk_at "go"
    refine ⟨_, ?_, _, _, rfl, hy, Int.emod_nonneg _ (by omega), ?_, rfl, rfl⟩
    · have := Int.emod_lt_of_pos x hy0
      have := Int.emod_nonneg x (b := y) (by omega)
      omega
    · rw [← hxy]
      exact gcd_step hx hy0
  · have hy0 : y = 0 := by
      have : ¬ 0 < y := fun z => hg (decide_eq_true z)
      omega
    subst hy0
    have ex : x = ((Nat.gcd t.natAbs b.natAbs : Nat) : Int) := by
      rw [Int.natAbs_zero, Nat.gcd_zero_right] at hxy
      omega
    subst ex
    have D1 : CDivW 0 ((Nat.gcd t.natAbs b.natAbs : Nat) : Int) := wide_div (b := 8000) (by omega) (by omega) (by decide) (by decide)
    walk_at "go"
    refine ite2 (fun hs => ?_) (fun hs => ?_)
    · have hs0 : 0 < b := of_decide_eq_true hs
      walk_at "go"
      refine fun p np => q p _ np (ex_new np) ?_
      rw [upd_same]
      unfold fr
      rw [if_pos hs0]
      rfl
    · have hs0 : ¬ 0 < b := fun z => hs (decide_eq_true z)
      walk_at "go"
      refine fun p np => q p _ np (ex_new np) ?_
      rw [upd_same]
      unfold fr
      rw [if_neg hs0]
      rfl
end
end K1
namespace K1
open PySem PySem.Spec PyProof.Rows L2 Qj
local macro_rules | `(tactic| walk_at "go") => `(tactic| repeat (first
  | (refine ⟨_, rfl, ?_⟩)
  | (refine ⟨_, _, rfl, rfl, ?_⟩)
  | (refine ⟨_, _, rfl, ?_⟩)
  | (refine ⟨_, _, _, _, rfl, rfl, SqL.of (by assumption), rfl, ?_⟩)
  | (refine ⟨_, _, _, _, rfl, rfl, SqL.of upd_same, rfl, ?_⟩)
  | (refine ⟨_, _, _, _, rfl, rfl, SqT.of (by assumption), rfl, ?_⟩)
  | (refine ⟨_, _, _, _, rfl, rfl, SqT.of upd_same, rfl, ?_⟩)
  | (refine ⟨_, _, _, _, rfl, rfl, (by assumption), rfl, ?_⟩)
  | (refine ⟨_, _, _, _, rfl, rfl, upd_same, rfl, ?_⟩)
  | (refine ⟨_, _, rfl, Or.inl (by assumption), ?_⟩)
  | (refine ⟨_, _, rfl, Or.inr (SqT.of (by assumption)), ?_⟩)
  | (refine ⟨_, _, rfl, Or.inr (SqT.of upd_same), ?_⟩)
  | (refine ⟨_, _, rfl, Or.inl (SqL.of (by assumption)), ?_⟩)
  | (refine ⟨_, _, rfl, SqT.of (by assumption), rfl, ?_⟩)
  | (refine ⟨_, _, rfl, Kn.int _, ?_⟩)
  | (refine ⟨_, _, rfl, (by assumption : Kn _ _ _), ?_⟩)
  | (refine iteNS rfl ?_)
  | (refine iteF ?_)
  | (refine iteT ?_)
  | (refine Or.inl ⟨_, rfl, ?_⟩)
  | (refine Or.inr ⟨_, rfl, ?_⟩)
  | (refine And.intro sz4 ?_)
  | (refine And.intro (by first | exact rfl | assumption | decide | (show (0 : Int) < _; decide) | exact wide_div (b := 63) (by assumption) (by omega) (by decide) (by decide) | exact wide_div (b := 63) (by decide) (by decide) (by decide) (by decide) | exact Or.inl ⟨by decide, by decide⟩ | exact Or.inr ⟨by decide, by decide⟩ | exact ⟨by decide, by decide, by decide⟩ | exact Or.inl ⟨by omega, by omega⟩ | exact Or.inr ⟨by omega, by omega⟩) ?_)))

section
variable {P : Program} {w : World} {K : PySem.W.Frag} {mg : Str → Option Value} {base : Heap}
theorem ok_is_whole (T : Txt K mg) : FnOk P w K mg base CX0 1 T.is_whole.f T.is_whole.fd ["value"] spWhole := by
  refine T.is_whole.F.ok sc_is_whole (fun vs H Q E h => ?_) (fun cdv A outer s H vs Q E hr h => ?_)
  · obtain ⟨x, k, rfl, _⟩ := h
    rfl
  obtain ⟨x, k, rfl, hk, q⟩ := h
  have nd := sc_is_whole.nd
  refine ⟨_, (pss_one (ps_ret (pe_and (pe_callB call_isi (by rfl) T.m_isinstance (by decide +kernel) (pa_cons (pv 0) (pa_cons (pe_bltn (v := .ty "int") (by rfl) T.m_int (by decide +kernel) rfl) pa_nil))) (pe_one (pe_not (pe_callB call_isi (by rfl) T.m_isinstance (by decide +kernel) (pa_cons (pv 0) (pa_cons (pe_bltn (v := .ty "bool") (by rfl) T.m_bool (by decide +kernel) rfl) pa_nil)))))))), ?_⟩
  walk_at "go"
  refine ⟨_, _, _, _, _, rfl, ClsV.ty _, hk.ty, kd_int _ _, _, rfl, ?_⟩
  refine ite2 (fun hc => ?_) (fun hc => ?_)
  · walk_at "go"
    refine ⟨_, _, _, _, _, rfl, ClsV.ty _, hk.ty, kd_bool _ _, ?_⟩
    walk_at "go"
    cases k <;> first | exact q | cases hc
  · cases k <;> first | exact q | exact absurd rfl hc
theorem ok_is_fraction (T : Txt K mg) : FnOk P w K mg base CX0 2 T.is_fraction.f T.is_fraction.fd ["value"] spIsFr := by
  refine T.is_fraction.F.ok sc_is_fraction (fun vs H Q E h => ?_) (fun cdv A outer s H vs Q E hr h => ?_)
  · obtain ⟨x, b, rfl, _⟩ := h
    rfl
  obtain ⟨x, r, rfl, hk, q⟩ := h
  have nd := sc_is_fraction.nd
  refine ⟨_, (pss_cons (ps_if (PW.pt (pw_or (pt_not (pt_val (pe_callB call_isi (by rfl) T.m_isinstance (by decide +kernel) (pa_cons (pv 0) (pa_cons (pe_bltn (v := .ty "tuple") (by rfl) T.m_tuple (by decide +kernel) rfl) pa_nil))))) (pw_or1 (pt_cmpR op_ne (pe_callB call_len_seq (by rfl) T.m_len (by decide +kernel) (pa_cons (pv 0) pa_nil)) pe_int (nomark _)))))
        (pss_one (ps_ret pe_bl))
        pss_nil)
      (pss_cons (ps_asg (pv 0) (pg_tup rfl (pgs_cons (pg_name (i := 1) nd rfl (.inl rfl)) (pgs_cons (pg_name (i := 2) nd rfl (.inl rfl)) pgs_nil))))
      (pss_cons (ps_if (PW.pt (pw_or (pt_not (pt_val (pe_call (ok_is_whole T) (hr.mono (by decide)) (by rfl) T.is_whole.g T.is_whole.F.kp T.is_whole.b .nil pass0 (pa_cons (pv 1) pa_nil)))) (pw_or1 (pt_not (pt_val (pe_call (ok_is_whole T) (hr.mono (by decide)) (by rfl) T.is_whole.g T.is_whole.F.kp T.is_whole.b .nil pass0 (pa_cons (pv 2) pa_nil)))))))
        (pss_one (ps_ret pe_bl))
        pss_nil)
      (pss_one (ps_ret (pe_and (pe_cmpR op_ge (pv 2) pe_int (nomark _)) (pe_one (pe_cmpR op_eq (pe_callBfun cr_gcd (by rfl) T.g_gcd (pa_cons (pv 1) (pa_cons (pv 2) pa_nil))) pe_int (nomark _))))))))), ?_⟩
  walk_at "go"
  cases hk with
  | @no x k hk hn =>
    refine ⟨_, _, _, _, _, rfl, ClsV.ty _, hk.ty, kd_tup _ _, _, rfl, ?_⟩
    rw [hn]
    walk_at "go"
    exact q
  | @len a xs ha hl =>
    refine ⟨_, _, _, _, _, rfl, ClsV.ty _, (Kn.tup ha).ty, kd_tup _ _, _, rfl, ?_⟩
    walk_at "go"
    refine ite2 (fun hc => ?_) (fun hc => ?_)
    · walk_at "go"
      exact q
    · refine absurd ?_ hl
      have h1 : ((xs.length : Nat) : Int) = 2 := ne_of_test hc
      omega
  | @two a x y k l ha hx hy hb =>
    refine ⟨_, _, _, _, _, rfl, ClsV.ty _, (Kn.tup ha).ty, kd_tup _ _, _, rfl, ?_⟩
    walk_at "go"
    cases hk : k.isInt with
    | false =>
      walk_at "go"
      exact q
    | true =>
      walk_at "go"
      have hl : l.isInt = false := by
        rw [hk] at hb
        exact hb
      rw [hl]
      walk_at "go"
      exact q
  | @int a t b ha =>
    refine ⟨_, _, _, _, _, rfl, ClsV.ty _, (Kn.tup ha).ty, kd_tup _ _, _, rfl, ?_⟩
    walk_at "go"
    refine ite2 (fun h1 => ?_) (fun h1 => ?_)
    · walk_at "go"
      rw [h1, Bool.true_and] at q
      refine (show Q (.bl (decide (V.int ((Nat.gcd t.natAbs b.natAbs : Nat) : Int) = V.int 1))) H from ?_)
      rw [Qj.dec_int]
      exact q
    · rw [Bool.eq_false_iff.mpr h1] at q
      exact q
theorem ok__lowest (T : Txt K mg) : FnOk P w K mg base CX0 1 T._lowest.f T._lowest.fd ["top", "bottom"] spFrac := by
  refine T._lowest.F.ok sc__lowest (fun vs H Q E h => ?_) (fun cdv A outer s H vs Q E hr h => ?_)
  · obtain ⟨t, b, rfl, _⟩ := h
    rfl
  obtain ⟨t, b, rfl, hb0, ht, hb, q⟩ := h
  have nd := sc__lowest.nd
  have G0 := gcd_pos t hb0
  have G1 := gcd_lt t hb0 hb
  refine ⟨_, (pss_cons (ps_set (i := 2) nd rfl (.inl rfl) (pe_callBfun cr_gcd (by rfl) T.g_gcd (pa_cons (pv 0) (pa_cons (pv 1) pa_nil))))
      (pss_cons (ps_if (pt_cmpR op_lt (pv 1) pe_int (nomark _))
        (pss_one (ps_set (i := 2) nd rfl (.inl rfl) (pe_un un_neg (pv 2))))
        pss_nil)
      (pss_one (ps_ret (pe_tup (pa_cons (pe_op op_fdivA (pv 0) (pv 2)) (pa_cons (pe_op op_fdivA (pv 1) (pv 2)) pa_nil))))))), ?_⟩
  walk_at "go"
  refine ite2 (fun hs => ?_) (fun hs => ?_)
  · have hs0 : b < 0 := of_decide_eq_true hs
    have D1 : CDivA 0 (-((Nat.gcd t.natAbs b.natAbs : Nat) : Int)) := ⟨by omega, PySem.Flt.log2_lt_of (by decide) (Nat.lt_of_le_of_lt (by omega) (Nat.lt_of_lt_of_le G1 (Nat.pow_le_pow_right (by decide) (show 8000 ≤ 9000 by decide))))⟩
    walk_at "go"
    refine fun p np => q p _ np (ex_new np) ?_
    rw [upd_same]
    unfold fr
    rw [if_neg (by omega)]
    dsimp only
    rw [fdiv_neg (dvd_t t b), fdiv_neg (dvd_b t b)]
    rfl
  · have hs0 : 0 < b := by
      have : ¬ b < 0 := fun z => hs (decide_eq_true z)
      omega
    have D1 : CDivA 0 ((Nat.gcd t.natAbs b.natAbs : Nat) : Int) := ⟨by omega, PySem.Flt.log2_lt_of (by decide) (Nat.lt_of_le_of_lt (by omega) (Nat.lt_of_lt_of_le G1 (Nat.pow_le_pow_right (by decide) (show 8000 ≤ 9000 by decide))))⟩
    walk_at "go"
    refine fun p np => q p _ np (ex_new np) ?_
    rw [upd_same]
    unfold fr
    rw [if_pos hs0]
    dsimp only
    rw [fdiv_pos (by omega), fdiv_pos (by omega), Int.one_mul, Int.one_mul]
    rfl
end
end K1
namespace K1
open PySem PySem.Spec PyProof.Rows L2 Qj
local macro_rules | `(tactic| walk_at "go") => `(tactic| repeat (first
  | (refine ⟨_, rfl, ?_⟩)
  | (refine ⟨_, _, rfl, rfl, ?_⟩)
  | (refine ⟨_, _, rfl, ?_⟩)
  | (refine ⟨_, _, _, _, rfl, rfl, SqL.of (by assumption), rfl, ?_⟩)
  | (refine ⟨_, _, _, _, rfl, rfl, SqL.of upd_same, rfl, ?_⟩)
  | (refine ⟨_, _, _, _, rfl, rfl, SqT.of (by assumption), rfl, ?_⟩)
  | (refine ⟨_, _, _, _, rfl, rfl, SqT.of upd_same, rfl, ?_⟩)
  | (refine ⟨_, _, _, _, rfl, rfl, (by assumption), rfl, ?_⟩)
  | (refine ⟨_, _, _, _, rfl, rfl, upd_same, rfl, ?_⟩)
  | (refine ⟨_, _, rfl, Or.inl (by assumption), ?_⟩)
  | (refine ⟨_, _, rfl, Or.inr (SqT.of (by assumption)), ?_⟩)
  | (refine ⟨_, _, rfl, Or.inr (SqT.of upd_same), ?_⟩)
  | (refine ⟨_, _, rfl, Or.inl (SqL.of (by assumption)), ?_⟩)
  | (refine ⟨_, _, rfl, SqT.of (by assumption), rfl, ?_⟩)
  | (refine ⟨_, _, rfl, Kn.int _, ?_⟩)
  | (refine ⟨_, _, rfl, (by assumption : Kn _ _ _), ?_⟩)
  | (refine iteNS rfl ?_)
  | (refine iteF ?_)
  | (refine iteT ?_)
  | (refine Or.inl ⟨_, rfl, ?_⟩)
  | (refine Or.inr ⟨_, rfl, ?_⟩)
  | (refine And.intro sz4 ?_)
  | (refine And.intro (by first | exact rfl | assumption | decide | (show (0 : Int) < _; decide) | exact wide_div (b := 63) (by assumption) (by omega) (by decide) (by decide) | exact wide_div (b := 63) (by decide) (by decide) (by decide) (by decide) | exact Or.inl ⟨by decide, by decide⟩ | exact Or.inr ⟨by decide, by decide⟩ | exact ⟨by decide, by decide, by decide⟩ | exact Or.inl ⟨by omega, by omega⟩ | exact Or.inr ⟨by omega, by omega⟩) ?_)))

section
variable {P : Program} {w : World} {K : PySem.W.Frag} {mg : Str → Option Value} {base : Heap}
theorem ok_fraction (T : Txt K mg) : FnOk P w K mg base (L2.CX P w) 2 T.frF T.frD ["top", "bottom"] (spFraction T.C) := by
  refine T.frFun.ok sc_fraction (fun vs H Q E h => ?_) (fun cdv A outer s H vs Q E hr h => ?_)
  · obtain ⟨x, y, k, l, rfl, _⟩ := h
    rfl
  obtain ⟨x, y, k, l, rfl, hx, hy, q1, q2⟩ := h
  have nd := sc_fraction.nd
  refine ⟨_, (pss_cons (ps_if (PW.pt (pw_or (pt_not (pt_val (pe_call (ok_is_whole T) (hr.mono (by decide)) (by rfl) T.is_whole.g T.is_whole.F.kp T.is_whole.b .nil pass0 (pa_cons (pv 0) pa_nil)))) (pw_or (pt_not (pt_val (pe_call (ok_is_whole T) (hr.mono (by decide)) (by rfl) T.is_whole.g T.is_whole.F.kp T.is_whole.b .nil pass0 (pa_cons (pv 1) pa_nil)))) (pw_or1 (pt_cmpR op_eq (pv 1) pe_int (nomark _))))))
        (pss_one (ps_raise rfl (takes_of rfl rfl rfl rfl) (pmk_own0 PySem.F.excBase_ValueError T.xC T.gC T.kC (raises_own T.bC T.tC) (by rfl))))
        pss_nil)
      (pss_one (ps_ret (pe_call (ok__lowest T) (hr.mono (by decide)) (by rfl) T._lowest.g T._lowest.F.kp T._lowest.b .nil pass0 (pa_cons (pv 0) (pa_cons (pv 1) pa_nil)))))), ?_⟩
  walk_at "go"
  cases hx with
  | int t =>
    walk_at "go"
    cases hy with
    | int b =>
      walk_at "go"
      obtain ⟨q3, q4⟩ := q2 t b rfl rfl
      refine ite2 (fun h => ?_) (fun h => ?_)
      · exact q3 (eq_of_test h)
      · have hb := eq_of_test' h
        obtain ⟨b1, b2, q5⟩ := q4 hb
        walk_at "go"
        exact q5
    | non => walk_at "go"; exact q1 rfl
    | bl b => walk_at "go"; exact q1 rfl
    | str b => walk_at "go"; exact q1 rfl
    | tup h => walk_at "go"; exact q1 rfl
    | lst h => walk_at "go"; exact q1 rfl
    | dic h => walk_at "go"; exact q1 rfl
  | non => walk_at "go"; exact q1 rfl
  | bl b => walk_at "go"; exact q1 rfl
  | str b => walk_at "go"; exact q1 rfl
  | tup h => walk_at "go"; exact q1 rfl
  | lst h => walk_at "go"; exact q1 rfl
  | dic h => walk_at "go"; exact q1 rfl
end
end K1
namespace K1
open PySem PySem.Spec PyProof.Rows L2 Qj
local macro_rules | `(tactic| walk_at "go") => `(tactic| repeat (first
  | (refine ⟨_, rfl, ?_⟩)
  | (refine ⟨_, _, rfl, rfl, ?_⟩)
  | (refine ⟨_, _, rfl, ?_⟩)
  | (refine ⟨_, _, _, _, rfl, rfl, SqL.of (by assumption), rfl, ?_⟩)
  | (refine ⟨_, _, _, _, rfl, rfl, SqL.of upd_same, rfl, ?_⟩)
  | (refine ⟨_, _, _, _, rfl, rfl, SqT.of (by assumption), rfl, ?_⟩)
  | (refine ⟨_, _, _, _, rfl, rfl, SqT.of upd_same, rfl, ?_⟩)
  | (refine ⟨_, _, _, _, rfl, rfl, (by assumption), rfl, ?_⟩)
  | (refine ⟨_, _, _, _, rfl, rfl, upd_same, rfl, ?_⟩)
  | (refine ⟨_, _, rfl, Or.inl (by assumption), ?_⟩)
  | (refine ⟨_, _, rfl, Or.inr (SqT.of (by assumption)), ?_⟩)
  | (refine ⟨_, _, rfl, Or.inr (SqT.of upd_same), ?_⟩)
  | (refine ⟨_, _, rfl, Or.inl (SqL.of (by assumption)), ?_⟩)
  | (refine ⟨_, _, rfl, SqT.of (by assumption), rfl, ?_⟩)
  | (refine ⟨_, _, rfl, Kn.int _, ?_⟩)
  | (refine ⟨_, _, rfl, (by assumption : Kn _ _ _), ?_⟩)
  | (refine iteNS rfl ?_)
  | (refine iteF ?_)
  | (refine iteT ?_)
  | (refine Or.inl ⟨_, rfl, ?_⟩)
  | (refine Or.inr ⟨_, rfl, ?_⟩)
  | (refine And.intro sz4 ?_)
  | (refine And.intro (by first | exact rfl | assumption | decide | (show (0 : Int) < _; decide) | exact wide_div (b := 63) (by assumption) (by omega) (by decide) (by decide) | exact wide_div (b := 63) (by decide) (by decide) (by decide) (by decide) | exact Or.inl ⟨by decide, by decide⟩ | exact Or.inr ⟨by decide, by decide⟩ | exact ⟨by decide, by decide, by decide⟩ | exact Or.inl ⟨by omega, by omega⟩ | exact Or.inr ⟨by omega, by omega⟩) ?_)))

section
variable {P : Program} {w : World} {K : PySem.W.Frag} {mg : Str → Option Value} {base : Heap}
theorem ok__law_made (T : Txt K mg) : FnG P w K mg base CX0 3 T._law_made.f T._law_made.fd ["_law_top", "_law_bottom"] spMade := by
  refine okG T._law_made.F sc__law_made (fun vs H Q E h => ?_) (fun cdv A outer s H vs Q E hr gd h => ?_)
  · obtain ⟨x, y, k, l, r, rfl, _⟩ := h
    rfl
  obtain ⟨x, y, k, l, r, rfl, hx, hy, hm, q⟩ := h
  have nd := sc__law_made.nd
  refine ⟨_, PSs.nox (pss_cons (ps_try_only rfl rfl ⟨rfl, by decide, .inl T.gC⟩ takes0 (fun W pn xe tk _ => (pss_one (ps_set (i := 2) nd rfl (.inl rfl) (pe_callB (cr_reprK K (by exact rfl) (by exact gd) (by exact hr.units)) (by rfl) T.m_repr (by decide +kernel) (pa_cons (pe_callS (ok_fraction T) (hr.mono (by decide)) (by rfl) T.frG T.frFun.kp T.b2 (fun σ => passAt tk σ) (pa_cons (pv 0) (pa_cons (pv 1) pa_nil))) pa_nil))))) (fun a oe cls d pn _ _ => (pss_one (ps_set (i := 2) nd rfl (.inl rfl) pe_str))))
      (pss_one (ps_ret (pv 2)))), ?_⟩
  walk_at "go"
  refine ⟨_, _, _, _, rfl, hx, hy, fun hn => ?_, fun t b e1 e2 => ?_⟩
  · cases hm with
    | odd _ =>
      refine ⟨true, T.eC, fun _ a na => ?_, fun z => nomatch z⟩
      walk_at "go"
      exact q _ (Evl.Ex.refl _)
    | zero => cases hn
    | fr => cases hn
  · subst e1 e2
    cases hx
    cases hy
    cases hm with
    | odd h => cases h
    | zero =>
      refine ⟨fun _ => ?_, fun h => absurd rfl h⟩
      refine ⟨true, T.eC, fun _ a na => ?_, fun z => nomatch z⟩
      walk_at "go"
      exact q _ (Evl.Ex.refl _)
    | fr hb h1 h2 =>
      refine ⟨fun h => absurd h hb, fun _ => ⟨pow_le8000 h1 (by decide), pow_le8000 h2 (by decide), fun p H' np e hp => ?_⟩⟩
      obtain ⟨l1, l2⟩ := fr_lt hb h1 h2
      refine ⟨_, _, _, _, rfl, dp_fr hp, okd_fr l1 l2 (by decide) (by decide), by decide, by decide, ?_⟩
      walk_at "go"
      exact q _ e
end
end K1
namespace K1
open PySem PySem.Spec PyProof.Rows L2 Qj
local macro_rules | `(tactic| walk_at "go") => `(tactic| repeat (first
  | (refine ⟨_, rfl, ?_⟩)
  | (refine ⟨_, _, rfl, rfl, ?_⟩)
  | (refine ⟨_, _, rfl, ?_⟩)
  | (refine ⟨_, _, _, _, rfl, rfl, SqL.of (by assumption), rfl, ?_⟩)
  | (refine ⟨_, _, _, _, rfl, rfl, SqL.of upd_same, rfl, ?_⟩)
  | (refine ⟨_, _, _, _, rfl, rfl, SqT.of (by assumption), rfl, ?_⟩)
  | (refine ⟨_, _, _, _, rfl, rfl, SqT.of upd_same, rfl, ?_⟩)
  | (refine ⟨_, _, _, _, rfl, rfl, (by assumption), rfl, ?_⟩)
  | (refine ⟨_, _, _, _, rfl, rfl, upd_same, rfl, ?_⟩)
  | (refine ⟨_, _, rfl, Or.inl (by assumption), ?_⟩)
  | (refine ⟨_, _, rfl, Or.inr (SqT.of (by assumption)), ?_⟩)
  | (refine ⟨_, _, rfl, Or.inr (SqT.of upd_same), ?_⟩)
  | (refine ⟨_, _, rfl, Or.inl (SqL.of (by assumption)), ?_⟩)
  | (refine ⟨_, _, rfl, SqT.of (by assumption), rfl, ?_⟩)
  | (refine ⟨_, _, rfl, Kn.int _, ?_⟩)
  | (refine ⟨_, _, rfl, (by assumption : Kn _ _ _), ?_⟩)
  | (refine iteNS rfl ?_)
  | (refine iteF ?_)
  | (refine iteT ?_)
  | (refine Or.inl ⟨_, rfl, ?_⟩)
  | (refine Or.inr ⟨_, rfl, ?_⟩)
  | (refine And.intro sz4 ?_)
  | (refine And.intro (by first | exact rfl | assumption | decide | (show (0 : Int) < _; decide) | exact wide_div (b := 63) (by assumption) (by omega) (by decide) (by decide) | exact wide_div (b := 63) (by decide) (by decide) (by decide) (by decide) | exact Or.inl ⟨by decide, by decide⟩ | exact Or.inr ⟨by decide, by decide⟩ | exact ⟨by decide, by decide, by decide⟩ | exact Or.inl ⟨by omega, by omega⟩ | exact Or.inr ⟨by omega, by omega⟩) ?_)))

section
variable {P : Program} {w : World} {K : PySem.W.Frag} {mg : Str → Option Value} {base : Heap}
theorem ok__law_number (T : Txt K mg) : FnOk P w K mg base CX0 2 T._law_number.f T._law_number.fd ["_law_deck_here", "_law_kind"] spNumber := by
  refine T._law_number.F.ok sc__law_number (fun vs H Q E h => ?_) (fun cdv A outer s H vs Q E hr h => ?_)
  · obtain ⟨D, k, rfl, _⟩ := h
    rfl
  obtain ⟨D, k, rfl, hd, k0, k1, q⟩ := h
  have nd := sc__law_number.nd
  refine ⟨_, (pss_cons (ps_set (i := 2) nd rfl (.inl rfl) (pe_ix ix_tup (pe_tup (pa_cons pe_int (pa_cons pe_int (pa_cons (pe_op op_pow pe_int pe_int) (pa_cons (pe_op op_pow pe_int pe_int) pa_nil))))) (pv 1) (fun _ _ => rfl)))
      (pss_one (ps_ret (pe_op op_sub (pe_call (ok__law_take T) (hr.mono (by decide)) (by rfl) T._law_take.g T._law_take.F.kp T._law_take.b .nil pass0 (pa_cons (pv 0) (pa_cons (pe_op op_add (pe_op op_mul pe_int (pv 2)) pe_int) pa_nil))) (pv 2))))), ?_⟩
  walk_at "go"
  intro p np
  have d1 : DeckAt (upd H p (.tup [.int 5, .int 30, .int (10 ^ (4 : Int).toNat), .int (10 ^ (18 : Int).toNat)])) D := hd.ex (ex_new np)
  have b1 : Bu D H (upd H p (.tup [.int 5, .int 30, .int (10 ^ (4 : Int).toNat), .int (10 ^ (18 : Int).toNat)])) := Bu.new np
  obtain rfl | rfl | rfl | rfl : k = 0 ∨ k = 1 ∨ k = 2 ∨ k = 3 := by omega
  · walk_at "go"
    intro v H' h0 h1 bu dk
    walk_at "go"
    exact q _ _ (num_le h0 h1 (by decide +kernel)) (b1.trans bu) dk
  · walk_at "go"
    intro v H' h0 h1 bu dk
    walk_at "go"
    exact q _ _ (num_le h0 h1 (by decide +kernel)) (b1.trans bu) dk
  · walk_at "go"
    intro v H' h0 h1 bu dk
    walk_at "go"
    exact q _ _ (num_le h0 h1 (by decide +kernel)) (b1.trans bu) dk
  · walk_at "go"
    intro v H' h0 h1 bu dk
    walk_at "go"
    exact q _ _ (num_le h0 h1 (by decide +kernel)) (b1.trans bu) dk
end

section
variable {P : Program} {w : World} {K : PySem.W.Frag} {mg : Str → Option Value} {base : Heap}
theorem ok__law_odd (T : Txt K mg) : FnOk P w K mg base CX0 2 T._law_odd.f T._law_odd.fd ["_law_deck_here", "_law_top", "_law_bottom"] spOdd := by
  refine T._law_odd.F.ok sc__law_odd (fun vs H Q E h => ?_) (fun cdv A outer s H vs Q E hr h => ?_)
  · obtain ⟨D, t, b, rfl, _⟩ := h
    rfl
  obtain ⟨D, t, b, rfl, hd, q⟩ := h
  have nd := sc__law_odd.nd
  refine ⟨_, (pss_cons (ps_set (i := 3) nd rfl (.inl rfl) (pe_tup (pa_cons pe_non (pa_cons pe_bl (pa_cons pe_bl (pa_cons pe_str (pa_cons (pe_tup (pa_cons pe_int pa_nil)) (pa_cons (pe_lst (pa_cons pe_int pa_nil)) (pa_cons (pe_tup (pa_cons (pv 1) (pa_cons (pv 2) pa_nil))) (pa_cons pe_dnewK (pa_cons pe_str pa_nil)))))))))))
      (pss_one (ps_ret (pe_ix ix_tup (pv 3) (pe_call (ok__law_take T) (hr.mono (by decide)) (by rfl) T._law_take.g T._law_take.F.kp T._law_take.b .nil pass0 (pa_cons (pv 0) (pa_cons (pe_callB call_len_seq (by rfl) T.m_len (by decide +kernel) (pa_cons (pv 3) pa_nil)) pa_nil))) (fun _ _ => rfl))))), ?_⟩
  walk_at "go"
  intro p1 n1
  walk_at "go"
  intro p2 n2
  walk_at "go"
  intro p3 n3
  walk_at "go"
  intro p4 n4
  walk_at "go"
  intro p5 n5
  have d1 := hd.ex (ex_new (o := .tup [.int 1]) n1)
  have d2 := d1.ex (ex_new (o := .lst [.int 1]) n2)
  have d3 := d2.ex (ex_new (o := .tup [.int t, .int b]) n3)
  have d4 := d3.ex (ex_new (o := .dK []) n4)
  have m1 := hd.ne n1
  have m2 := d1.ne n2
  have m3 := d2.ne n3
  have m4 := d3.ne n4
  have m5 := d4.ne n5
  have e5 := ex_new (o := .tup [.non, .bl true, .bl false, .str "1", .ref p1, .ref p2, .ref p3, .ref p4, .str ""]) n5
  have e4 := (ex_new (o := .dK []) n4).trans e5
  have e3 := (ex_new (o := .tup [.int t, .int b]) n3).trans e4
  have e2 := (ex_new (o := .lst [.int 1]) n2).trans e3
  have e1 := (ex_new (o := .tup [.int 1]) n1).trans e2
  walk_at "go"
  refine ⟨d4.ex e5, (show (0 : Int) < 9 by decide), (show (9 : Int) < 2 ^ 63 by decide), fun v H' h0 h1 bu dk => ?_⟩
  have hb := (Bu.of e1).trans bu
  have hT : H' p5 = some (.tup [.non, .bl true, .bl false, .str "1", .ref p1, .ref p2, .ref p3, .ref p4, .str ""]) := bu _ _ m5 upd_same
  have g1 := bu _ _ m1 (e2 _ _ upd_same)
  have g2 := bu _ _ m2 (e3 _ _ upd_same)
  have g3 := bu _ _ m3 (e4 _ _ upd_same)
  have g4 := bu _ _ m4 (e5 _ _ upd_same)
  have h1' : v < 9 := h1
  obtain rfl | rfl | rfl | rfl | rfl | rfl | rfl | rfl | rfl : v = 0 ∨ v = 1 ∨ v = 2 ∨ v = 3 ∨ v = 4 ∨ v = 5 ∨ v = 6 ∨ v = 7 ∨ v = 8 := by omega
  · walk_at "go"; exact q _ _ _ .non rfl hb dk
  · walk_at "go"; exact q _ _ _ (.bl _) rfl hb dk
  · walk_at "go"; exact q _ _ _ (.bl _) rfl hb dk
  · walk_at "go"; exact q _ _ _ (.str _) rfl hb dk
  · walk_at "go"; exact q _ _ _ (.tup g1) rfl hb dk
  · walk_at "go"; exact q _ _ _ (.lst g2) rfl hb dk
  · walk_at "go"; exact q _ _ _ (.tup g3) rfl hb dk
  · walk_at "go"; exact q _ _ _ (.dic g4) rfl hb dk
  · walk_at "go"; exact q _ _ _ (.str _) rfl hb dk
theorem ok__law_told (T : Txt K mg) : FnOk P w K mg base CX0 2 T._law_told.f T._law_told.fd ["_law_top", "_law_bottom"] spTold := by
  refine T._law_told.F.ok sc__law_told (fun vs H Q E h => ?_) (fun cdv A outer s H vs Q E hr h => ?_)
  · obtain ⟨t, b, rfl, _⟩ := h
    rfl
  obtain ⟨t, b, rfl, ht, hb, q⟩ := h
  have nd := sc__law_told.nd
  refine ⟨_, (pss_one (ps_ret (pe_and (pe_cmpR op_gt (pv 1) pe_int (nomark _)) (pe_one (pe_cmpR (op_eqD hr.units) (pe_call (ok__law_frac T) (hr.mono (by decide)) (by rfl) T._law_frac.g T._law_frac.F.kp T._law_frac.b .nil pass0 (pa_cons (pv 0) (pa_cons (pv 1) pa_nil))) (pe_tup (pa_cons (pv 0) (pa_cons (pv 1) pa_nil))) (nomark _)))))), ?_⟩
  walk_at "go"
  refine ite2 (fun hs => ?_) (fun hs => ?_)
  · have hs0 : 0 < b := of_decide_eq_true hs
    walk_at "go"
    refine ⟨by omega, pow_le8000 ht (by decide), pow_le8000 hb (by decide), fun p H' np e hp => ?_⟩
    walk_at "go"
    intro p2 n2
    refine ⟨frD (fr t b), frD (t, b), dp_fr (ex_new n2 _ _ hp), dp_fr (x := (t, b)) upd_same, shaped_fr _, shaped_fr _, ?_⟩
    rw [eqv_fr, ← told_eq hs0]
    exact q _ (e.trans (ex_new n2))
  · have hs0 : ¬ 1 ≤ b := fun z => hs (decide_eq_true (show 0 < b by omega))
    have q2 := q H (Evl.Ex.refl _)
    rw [decide_eq_false hs0, Bool.false_and] at q2
    exact q2
end
end K1
namespace K1
open PySem PySem.Spec PyProof.Rows L2 Qj
local macro_rules | `(tactic| walk_at "go") => `(tactic| repeat (first
  | (refine ⟨_, rfl, ?_⟩)
  | (refine ⟨_, _, rfl, rfl, ?_⟩)
  | (refine ⟨_, _, rfl, ?_⟩)
  | (refine ⟨_, _, _, _, rfl, rfl, SqL.of (by assumption), rfl, ?_⟩)
  | (refine ⟨_, _, _, _, rfl, rfl, SqL.of upd_same, rfl, ?_⟩)
  | (refine ⟨_, _, _, _, rfl, rfl, SqT.of (by assumption), rfl, ?_⟩)
  | (refine ⟨_, _, _, _, rfl, rfl, SqT.of upd_same, rfl, ?_⟩)
  | (refine ⟨_, _, _, _, rfl, rfl, (by assumption), rfl, ?_⟩)
  | (refine ⟨_, _, _, _, rfl, rfl, upd_same, rfl, ?_⟩)
  | (refine ⟨_, _, rfl, Or.inl (by assumption), ?_⟩)
  | (refine ⟨_, _, rfl, Or.inr (SqT.of (by assumption)), ?_⟩)
  | (refine ⟨_, _, rfl, Or.inr (SqT.of upd_same), ?_⟩)
  | (refine ⟨_, _, rfl, Or.inl (SqL.of (by assumption)), ?_⟩)
  | (refine ⟨_, _, rfl, SqT.of (by assumption), rfl, ?_⟩)
  | (refine ⟨_, _, rfl, Kn.int _, ?_⟩)
  | (refine ⟨_, _, rfl, (by assumption : Kn _ _ _), ?_⟩)
  | (refine iteNS rfl ?_)
  | (refine iteF ?_)
  | (refine iteT ?_)
  | (refine Or.inl ⟨_, rfl, ?_⟩)
  | (refine Or.inr ⟨_, rfl, ?_⟩)
  | (refine And.intro sz4 ?_)
  | (refine And.intro (by first | exact rfl | assumption | decide | (show (0 : Int) < _; decide) | exact wide_div (b := 63) (by assumption) (by omega) (by decide) (by decide) | exact wide_div (b := 63) (by decide) (by decide) (by decide) (by decide) | exact Or.inl ⟨by decide, by decide⟩ | exact Or.inr ⟨by decide, by decide⟩ | exact ⟨by decide, by decide, by decide⟩ | exact Or.inl ⟨by omega, by omega⟩ | exact Or.inr ⟨by omega, by omega⟩) ?_)))

section
variable {P : Program} {w : World} {K : PySem.W.Frag} {mg : Str → Option Value} {base : Heap}
theorem wrong_all {H : Hp} {t b : Int} {z : Str} {q1 q2 q3 q4 q5 q6 q7 q9 q10 q11 : Addr} (g1 : H q1 = some (.tup [.int t, .int b, .int 1])) (g2 : H q2 = some (.tup [.int t])) (g3 : H q3 = some (.tup [.int t, .bl true])) (g4 : H q4 = some (.tup [.non, .int b]))
    (g5 : H q5 = some (.tup [.str z, .int b])) (g6 : H q6 = some (.tup [.int b, .int 1])) (g7 : H q7 = some (.tup [.int t, .ref q6])) (g9 : H q9 = some (.lst [.int t, .int b])) (g10 : H q10 = some (.tup [])) (g11 : H q11 = some (.dK [])) :
    ∀ x ∈ ([.ref q1, .ref q2, .ref q3, .ref q4, .ref q5, .int t, .ref q7] ++ [.ref q9, .non, .bl true, .str "1", .ref q10, .ref q11] : List V), FrQ H x false := by
  intro x hx
  simp only [List.cons_append, List.nil_append, List.mem_cons, List.not_mem_nil, or_false] at hx
  obtain rfl | rfl | rfl | rfl | rfl | rfl | rfl | rfl | rfl | rfl | rfl | rfl | rfl := hx
  · exact .len g1 (by simp)
  · exact .len g2 (by simp)
  · exact .two g3 (.int _) (.bl _) rfl
  · exact .two g4 .non (.int _) rfl
  · exact .two g5 (.str _) (.int _) rfl
  · exact .no (.int _) rfl
  · exact .two g7 (.int _) (.tup g6) rfl
  · exact .no (.lst g9) rfl
  · exact .no .non rfl
  · exact .no (.bl _) rfl
  · exact .no (.str _) rfl
  · exact .len g10 (by decide)
  · exact .no (.dic g11) rfl
theorem ok__law_right (T : Txt K mg) : FnG P w K mg base CX0 4 T._law_right.f T._law_right.fd ["_law_deck_here", "_law_top", "_law_bottom"] spRight := by
  refine okG T._law_right.F sc__law_right (fun vs H Q E h => ?_) (fun cdv A outer s H vs Q E hr gd h => ?_)
  · obtain ⟨D, t, b, rfl, _⟩ := h
    rfl
  obtain ⟨D, t, b, rfl, hd, ht, hb, q⟩ := h
  have nd := sc__law_right.nd
  obtain ⟨ds, rds, bds⟩ := T.b1
  refine ⟨_, PSs.nox (Evl.pss_cut (ps_set (i := 3) nd rfl (.inl rfl) (pe_ifExp (pt_cmpR op_eq (pv 2) pe_int (nomark _)) pe_str (pe_callB (cr_reprK K (by exact rfl) (by exact gd) (by exact hr.units)) (by rfl) T.m_repr (by decide +kernel) (pa_cons (pe_call (ok__law_frac T) (hr.mono (by decide)) (by rfl) T._law_frac.g T._law_frac.F.kp T._law_frac.b .nil pass0 (pa_cons (pv 1) (pa_cons (pv 2) pa_nil))) pa_nil))))
      (pss_cons (ps_if (PW.pt (pw_or (pt_cmpR op_ne (pe_callG (ok__law_made T) (hr.mono (by decide)) gd (by rfl) T._law_made.g T._law_made.F.kp T._law_made.b .nil pass0 (pa_cons (pv 1) (pa_cons (pv 2) pa_nil))) (pv 3) (nomark _)) (pw_or1 (pt_cmpR op_ne (pe_callB (cr_reprK K (by exact rfl) (by exact gd) (by exact hr.units)) (by rfl) T.m_repr (by decide +kernel) (pa_cons (pe_call (dvs := [.int 1]) (ok_fraction T) (hr.mono (by decide)) (by rfl) T.frG T.frFun.kp bds rds passX0 (pa_cons (pv 1) pa_nil)) pa_nil)) (pe_callB (cr_reprK K (by exact rfl) (by exact gd) (by exact hr.units)) (by rfl) T.m_repr (by decide +kernel) (pa_cons (pe_tup (pa_cons (pv 1) (pa_cons pe_int pa_nil))) pa_nil)) (nomark _)))))
        (pss_one (ps_ret pe_bl))
        pss_nil)
      (pss_cons (ps_set (i := 4) nd rfl (.inl rfl) (pe_call (ok__law_odd T) (hr.mono (by decide)) (by rfl) T._law_odd.g T._law_odd.F.kp T._law_odd.b .nil pass0 (pa_cons (pv 0) (pa_cons (pv 1) (pa_cons (pv 2) pa_nil)))))
      (pss_cons (ps_if (PW.pt (pw_or (pt_cmpR op_ne (pe_callG (ok__law_made T) (hr.mono (by decide)) gd (by rfl) T._law_made.g T._law_made.F.kp T._law_made.b .nil pass0 (pa_cons (pv 4) (pa_cons (pv 2) pa_nil))) pe_str (nomark _)) (pw_or1 (pt_cmpR op_ne (pe_callG (ok__law_made T) (hr.mono (by decide)) gd (by rfl) T._law_made.g T._law_made.F.kp T._law_made.b .nil pass0 (pa_cons (pv 1) (pa_cons (pv 4) pa_nil))) pe_str (nomark _)))))
        (pss_one (ps_ret pe_bl))
        pss_nil)
      (pss_cons (ps_if (pt_cmpR op_ne (pe_callB (cr_reprK K (by exact rfl) (by exact gd) (by exact hr.units)) (by rfl) T.m_repr (by decide +kernel) (pa_cons (pe_call (ok_is_fraction T) (hr.mono (by decide)) (by rfl) T.is_fraction.g T.is_fraction.F.kp T.is_fraction.b .nil pass0 (pa_cons (pe_tup (pa_cons (pv 1) (pa_cons (pv 2) pa_nil))) pa_nil)) pa_nil)) (pe_callB (cr_reprK K (by exact rfl) (by exact gd) (by exact hr.units)) (by rfl) T.m_repr (by decide +kernel) (pa_cons (pe_call (ok__law_told T) (hr.mono (by decide)) (by rfl) T._law_told.g T._law_told.F.kp T._law_told.b .nil pass0 (pa_cons (pv 1) (pa_cons (pv 2) pa_nil))) pa_nil)) (nomark _))
        (pss_one (ps_ret pe_bl))
        pss_nil)
      (pss_cons (ps_set (i := 5) nd rfl (.inl rfl) (pe_tup (pa_cons (pe_tup (pa_cons (pv 1) (pa_cons (pv 2) (pa_cons pe_int pa_nil)))) (pa_cons (pe_tup (pa_cons (pv 1) pa_nil)) (pa_cons (pe_tup (pa_cons (pv 1) (pa_cons pe_bl pa_nil))) (pa_cons (pe_tup (pa_cons pe_non (pa_cons (pv 2) pa_nil))) (pa_cons (pe_tup (pa_cons (pe_callTy call_str_int (by rfl) T.m_str boot_str (pa_cons (pv 1) pa_nil)) (pa_cons (pv 2) pa_nil))) (pa_cons (pv 1) (pa_cons (pe_tup (pa_cons (pv 1) (pa_cons (pe_tup (pa_cons (pv 2) (pa_cons pe_int pa_nil))) pa_nil))) pa_nil)))))))))
      (pss_cons (ps_set (i := 5) nd rfl (.inl rfl) (pe_op op_catT (pv 5) (pe_tup (pa_cons (pe_lst (pa_cons (pv 1) (pa_cons (pv 2) pa_nil))) (pa_cons pe_non (pa_cons pe_bl (pa_cons pe_str (pa_cons (pe_tup pa_nil) (pa_cons pe_dnewK pa_nil)))))))))
      (pss_one (ps_ret (pe_cmpR op_eq (pe_callB (cr_reprK K (by exact rfl) (by exact gd) (by exact hr.units)) (by rfl) T.m_repr (by decide +kernel) (pa_cons (pe_lc (own := [("_law_one", 6)]) (g := gName 6) (tt := tYes) rfl nd (pi_tup (pv 5)) (blkOk_by (N := ["_law_deck_here", "_law_top", "_law_bottom", "_law_due", "_law_odd_here", "_law_wrong", "_law_one"]) (sc := defScope s__law_right) (by decide +kernel)) (fun _ _ _ _ _ => pg_name (i := 6) nd rfl (Or.inl rfl)) (fun _ _ _ _ _ => pts_nil) (fun _ _ _ _ _ => (pe_call (ok_is_fraction T) (hr.mono (by decide)) (by rfl) T.is_fraction.g T.is_fraction.F.kp T.is_fraction.b .nil pass0 (pa_cons (pv 6) pa_nil)))) pa_nil)) (pe_callB (cr_reprK K (by exact rfl) (by exact gd) (by exact hr.units)) (by rfl) T.m_repr (by decide +kernel) (pa_cons (pe_op op_rep (pe_lst (pa_cons pe_bl pa_nil)) (pe_callB call_len_seq (by rfl) T.m_len (by decide +kernel) (pa_cons (pv 5) pa_nil))) pa_nil)) (nomark _))))))))))), ?_⟩
  refine ⟨fun σ' H' => ∃ r, MadeQ (.int t) (.int b) .int .int r ∧ σ' = [some (.ref D), some (.int t), some (.int b), some (.str r), none, none, none] ∧ DeckAt H' D ∧ Bu D H H', ?_, ?_⟩
  · walk_at "go"
    refine ite2 (fun h => ?_) (fun h => ?_)
    · have hb0 := eq_of_test h
      subst hb0
      walk_at "go"
      exact ⟨_, .zero, rfl, hd, Bu.refl _ _⟩
    · have hb0 := eq_of_test' h
      walk_at "go"
      refine ⟨pow_le8000 ht (by decide), pow_le8000 hb (by decide), fun p H' np e hp => ?_⟩
      obtain ⟨l1, l2⟩ := fr_lt hb0 ht hb
      refine ⟨_, _, _, _, rfl, dp_fr hp, okd_fr l1 l2 (by decide) (by decide), by decide, by decide, ?_⟩
      exact ⟨_, .fr hb0 ht hb, rfl, hd.ex e, Bu.of e⟩
  · rintro σ' H1 ⟨r, hm, rfl, d1, b1⟩
    walk_at "go"
    refine ⟨_, _, _, _, r, rfl, .int _, .int _, hm, fun H2 e2 => ?_⟩
    walk_at "go"
    refine ⟨_, _, _, _, rfl, .int _, .int _, (fun z => nomatch z), fun t' b' z1 z2 => ?_⟩
    cases z1
    cases z2
    refine ⟨(fun z => by cases z), fun z0 => ⟨pow_le8000 ht (by decide), pow_le8000 (show (1 : Int).natAbs < 2 ^ 400 by decide) (by decide), fun p1 H3 n1 e3 h1 => ?_⟩⟩
    obtain ⟨l1, l2⟩ := fr_lt z0 ht (show (1 : Int).natAbs < 2 ^ 400 by decide)
    refine ⟨_, _, _, _, rfl, dp_fr h1, okd_fr l1 l2 (by decide) (by decide), by decide, by decide, ?_⟩
    walk_at "go"
    intro p2 n2
    refine ⟨_, _, _, _, rfl, dp_fr (x := (t, 1)) upd_same, okd_fr (k := 400) ht (show (1 : Int).natAbs < 2 ^ 400 by decide) (by decide) (by decide), by decide, by decide, ?_⟩
    rw [fr_one]
    walk_at "go"
    have d3 := (d1.ex e2).ex (e3.trans (ex_new (o := .tup [.int t, .int 1]) n2))
    have b3 := b1.trans (Bu.of (D := D) (e2.trans (e3.trans (ex_new (o := .tup [.int t, .int 1]) n2))))
    refine ⟨_, _, _, rfl, d3, fun x k H4 hx hk bu4 d4 => ?_⟩
    have b4 := b3.trans bu4
    clear b3 d3 bu4
    walk_at "go"
    refine ⟨_, _, _, _, refused, rfl, hx, .int _, .odd (by rw [hk]; rfl), fun H5 e5 => ?_⟩
    walk_at "go"
    refine ⟨_, _, _, _, refused, rfl, .int _, hx.ex e5, .odd (by rw [hk]; rfl), fun H6 e6 => ?_⟩
    walk_at "go"
    intro p3 n3
    refine ⟨_, _, rfl, .int upd_same, ?_⟩
    refine ⟨_, _, _, _, rfl, .bl _, okd_bl, by decide, by decide, ?_⟩
    walk_at "go"
    intro H7 e7
    refine ⟨_, _, _, _, rfl, .bl _, okd_bl, by decide, by decide, ?_⟩
    walk_at "go"
    have e567 := e5.trans (e6.trans ((ex_new (o := .tup [.int t, .int b]) n3).trans e7))
    have d7 := d4.ex e567
    have b7 := b4.trans (Bu.of (D := D) e567)
    clear d4 b4 hx
    have hlog : t.natAbs.log2 < 1920 := Nat.lt_of_lt_of_le (PySem.Flt.log2_lt_of (by decide) ht) (by decide)
    intro q1 n1
    walk_at "go"
    intro q2 n2
    walk_at "go"
    intro q3 n3
    walk_at "go"
    intro q4 n4
    walk_at "go"
    intro q5 n5
    walk_at "go"
    intro q6 n6
    walk_at "go"
    intro q7 n7
    walk_at "go"
    intro q8 n8
    walk_at "go"
    intro q9 n9
    walk_at "go"
    intro q10 n10
    walk_at "go"
    intro q11 n11
    walk_at "go"
    intro q12 n12
    walk_at "go"
    have x12 := ex_new (o := .tup [.ref q9, .non, .bl true, .str "1", .ref q10, .ref q11]) n12
    have x11 := (ex_new (o := .dK []) n11).trans x12
    have x10 := (ex_new (o := .tup []) n10).trans x11
    have x9 := (ex_new (o := .lst [.int t, .int b]) n9).trans x10
    have x8 := (ex_new (o := .tup [.ref q1, .ref q2, .ref q3, .ref q4, .ref q5, .int t, .ref q7]) n8).trans x9
    have x7 := (ex_new (o := .tup [.int t, .ref q6]) n7).trans x8
    have x6 := (ex_new (o := .tup [.int b, .int 1]) n6).trans x7
    have x5 := (ex_new (o := .tup [.str (Str.ofString (toString t)), .int b]) n5).trans x6
    have x4 := (ex_new (o := .tup [.non, .int b]) n4).trans x5
    have x3 := (ex_new (o := .tup [.int t, .bl true]) n3).trans x4
    have x2 := (ex_new (o := .tup [.int t]) n2).trans x3
    have x1 := (ex_new (o := .tup [.int t, .int b, .int 1]) n1).trans x2
    have g1 := x2 _ _ upd_same
    have g2 := x3 _ _ upd_same
    have g3 := x4 _ _ upd_same
    have g4 := x5 _ _ upd_same
    have g5 := x6 _ _ upd_same
    have g6 := x7 _ _ upd_same
    have g7 := x8 _ _ upd_same
    have g8 := x9 _ _ upd_same
    have g9 := x10 _ _ upd_same
    have g10 := x11 _ _ upd_same
    have g11 := x12 _ _ upd_same
    refine ⟨_, _, _, _, rfl, rfl, SqT.of g8, SqT.of upd_same, (fun z => by cases z), sz4, (fun z => by cases z), fun _ q13 n13 => ?_⟩
    have x13 := x1.trans (ex_new (o := .tup ([.ref q1, .ref q2, .ref q3, .ref q4, .ref q5, .int t, .ref q7] ++ [.ref q9, .non, .bl true, .str "1", .ref q10, .ref q11])) n13)
    have y13 := ex_new (o := .tup ([.ref q1, .ref q2, .ref q3, .ref q4, .ref q5, .int t, .ref q7] ++ [.ref q9, .non, .bl true, .str "1", .ref q10, .ref q11])) n13
    have all := wrong_all g1 g2 g3 g4 g5 g6 g7 g9 g10 g11
    walk_at "go"
    refine ⟨⟨_, SqT.of upd_same⟩, fun L nL => lc_tup (xs := [.ref q1, .ref q2, .ref q3, .ref q4, .ref q5, .int t, .ref q7] ++ [.ref q9, .non, .bl true, .str "1", .ref q10, .ref q11]) (fun i G => Evl.Ex _ G ∧ G L = some (.lst (List.replicate i (.bl false)))) ⟨ex_new nL, upd_same⟩ ?_ ?_ ?_⟩
    · rintro i G hi ⟨e, _⟩
      exact SqT.of (e _ _ upd_same)
    · rintro i x G hx ⟨e, hL⟩
      refine ⟨rfl, ?_⟩
      walk_at "go"
      refine ⟨_, _, rfl, (all x (List.mem_of_getElem? hx)).ex (y13.trans e), ?_⟩
      refine ⟨_, hL, ?_, Evl.Ex.mut e nL, ?_⟩
      · rw [List.length_replicate]
        have : i < 13 := (List.getElem?_eq_some_iff.mp hx).1
        exact Nat.lt_of_lt_of_le (Nat.lt_of_lt_of_le this (by decide)) (sz4 (n := 100))
      · rw [upd_same, List.replicate_succ']
    · rintro G ⟨e, hL⟩
      refine ⟨_, .list (List.replicate 13 (.bool false)), _, _, rfl, .lst (SqL.of hL) (dpall_rep 13), okd_lst (oka_rep 13), by decide, by decide, ?_⟩
      walk_at "go"
      intro r1 m1
      have hh := (ex_new (o := .lst [.bl false]) m1) _ _ (e _ _ upd_same)
      walk_at "go"
      refine ⟨_, _, _, rfl, rfl, upd_same, (show (-(2 ^ 63) : Int) ≤ 13 by decide), (show (13 : Int) < 2 ^ 63 by decide), sz4, fun r2 m2 => ?_⟩
      refine ⟨_, .list (List.replicate 13 (.bool false)), _, _, rfl, .lst (SqL.of upd_same) (dpall_rep 13), okd_lst (oka_rep 13), by decide, by decide, ?_⟩
      walk_at "go"
      rw [decide_eq_true rfl]
      have ee := x13.trans (e.trans ((ex_new (o := .lst [.bl false]) m1).trans (ex_new (o := .lst (List.replicate (13 : Int).toNat [.bl false]).flatten) m2)))
      exact q _ (b7.trans (Bu.of ee)) (d7.ex ee)
end
end K1
namespace K1
open PySem PySem.Spec PyProof.Rows L2 Qj
local macro_rules | `(tactic| walk_at "go") => `(tactic| repeat (first
  | (refine ⟨_, rfl, ?_⟩)
  | (refine ⟨_, _, rfl, rfl, ?_⟩)
  | (refine ⟨_, _, rfl, ?_⟩)
  | (refine ⟨_, _, _, _, rfl, rfl, SqL.of (by assumption), rfl, ?_⟩)
  | (refine ⟨_, _, _, _, rfl, rfl, SqL.of upd_same, rfl, ?_⟩)
  | (refine ⟨_, _, _, _, rfl, rfl, SqT.of (by assumption), rfl, ?_⟩)
  | (refine ⟨_, _, _, _, rfl, rfl, SqT.of upd_same, rfl, ?_⟩)
  | (refine ⟨_, _, _, _, rfl, rfl, (by assumption), rfl, ?_⟩)
  | (refine ⟨_, _, _, _, rfl, rfl, upd_same, rfl, ?_⟩)
  | (refine ⟨_, _, rfl, Or.inl (by assumption), ?_⟩)
  | (refine ⟨_, _, rfl, Or.inr (SqT.of (by assumption)), ?_⟩)
  | (refine ⟨_, _, rfl, Or.inr (SqT.of upd_same), ?_⟩)
  | (refine ⟨_, _, rfl, Or.inl (SqL.of (by assumption)), ?_⟩)
  | (refine ⟨_, _, rfl, SqT.of (by assumption), rfl, ?_⟩)
  | (refine ⟨_, _, rfl, Kn.int _, ?_⟩)
  | (refine ⟨_, _, rfl, (by assumption : Kn _ _ _), ?_⟩)
  | (refine iteNS rfl ?_)
  | (refine iteF ?_)
  | (refine iteT ?_)
  | (refine Or.inl ⟨_, rfl, ?_⟩)
  | (refine Or.inr ⟨_, rfl, ?_⟩)
  | (refine And.intro sz4 ?_)
  | (refine And.intro (by first | exact rfl | assumption | decide | (show (0 : Int) < _; decide) | exact wide_div (b := 63) (by assumption) (by omega) (by decide) (by decide) | exact wide_div (b := 63) (by decide) (by decide) (by decide) (by decide) | exact Or.inl ⟨by decide, by decide⟩ | exact Or.inr ⟨by decide, by decide⟩ | exact ⟨by decide, by decide, by decide⟩ | exact Or.inl ⟨by omega, by omega⟩ | exact Or.inr ⟨by omega, by omega⟩) ?_)))

def spLaw (K : PySem.W.Frag) : Sp := fun vs H Q _ => ∃ (a : Addr) (ns : List Int), vs = [.ref a] ∧ SqL K H a (ns.map V.int) ∧ ns.length ≤ 63 ∧ ∀ H', Q (.bl true) H'
section
variable {P : Program} {w : World} {K : PySem.W.Frag} {mg : Str → Option Value} {base : Heap}
theorem ok_law (T : Txt K mg) : FnG P w K mg base CX0 5 T.law.f T.law.fd ["_law_script"] (spLaw K) := by
  refine okG T.law.F sc_law (fun vs H Q E h => ?_) (fun cdv A outer s H vs Q E hr gd h => ?_)
  · obtain ⟨a, ns, rfl, _⟩ := h
    rfl
  obtain ⟨a, ns, rfl, hS, hlen, q⟩ := h
  have nd := sc_law.nd
  refine ⟨_, PSs.nox (pss_cons (ps_set (i := 1) nd rfl (.inl rfl) (pe_call (ok__law_deck T) (hr.mono (by decide)) (by rfl) T._law_deck.g T._law_deck.F.kp T._law_deck.b .nil pass0 (pa_cons (pv 0) pa_nil)))
      (pss_cons (ps_for PassesOwn.never rfl (pi_range1 rfl T.m_range (pa_cons pe_int pa_nil)) (pg_name (i := 2) nd rfl (.inl rfl))
        (pss_cons (ps_set (i := 3) nd rfl (.inl rfl) (pe_call (ok__law_take T) (hr.mono (by decide)) (by rfl) T._law_take.g T._law_take.F.kp T._law_take.b .nil pass0 (pa_cons (pv 1) (pa_cons pe_int pa_nil))))
        (pss_cons (ps_par (i := 4) (j := 5) rfl nd rfl rfl (by decide) rfl rfl (pa_cons (pe_call (ok__law_number T) (hr.mono (by decide)) (by rfl) T._law_number.g T._law_number.F.kp T._law_number.b .nil pass0 (pa_cons (pv 1) (pa_cons (pv 3) pa_nil))) (pa_cons (pe_call (ok__law_number T) (hr.mono (by decide)) (by rfl) T._law_number.g T._law_number.F.kp T._law_number.b .nil pass0 (pa_cons (pv 1) (pa_cons (pe_call (ok__law_take T) (hr.mono (by decide)) (by rfl) T._law_take.g T._law_take.F.kp T._law_take.b .nil pass0 (pa_cons (pv 1) (pa_cons pe_int pa_nil))) pa_nil))) pa_nil)) (by rfl))
        (Evl.pss_cut (ps_if (pt_cmpR op_eq (pe_call (ok__law_take T) (hr.mono (by decide)) (by rfl) T._law_take.g T._law_take.F.kp T._law_take.b .nil pass0 (pa_cons (pv 1) (pa_cons pe_int pa_nil))) pe_int (nomark _))
          (pss_one (ps_set (i := 5) nd rfl (.inl rfl) (pe_ix ix_tup (pe_tup (pa_cons pe_int (pa_cons pe_int (pa_cons (pe_un un_neg pe_int) (pa_cons (pv 4) pa_nil))))) (pe_call (ok__law_take T) (hr.mono (by decide)) (by rfl) T._law_take.g T._law_take.F.kp T._law_take.b .nil pass0 (pa_cons (pv 1) (pa_cons pe_int pa_nil))) (fun _ _ => rfl))))
          pss_nil)
        (pss_one (ps_if (pt_not (pt_val (pe_callG (ok__law_right T) (hr.mono (by decide)) gd (by rfl) T._law_right.g T._law_right.F.kp T._law_right.b .nil pass0 (pa_cons (pv 1) (pa_cons (pv 4) (pa_cons (pv 5) pa_nil))))))
          (pss_one (ps_ret pe_bl))
          pss_nil))))))
      (pss_one (ps_ret pe_bl)))), ?_⟩
  walk_at "go"
  refine ⟨a, ns, rfl, hS, hlen, fun D H1 nD e1 d1 => ?_⟩
  walk_at "go"
  refine for_range (n := 6) (fun i σ H' => ∃ x2 x3 x4 x5, σ = [some (.ref a), some (.ref D), x2, x3, x4, x5] ∧ DeckAt H' D) ⟨_, _, _, _, rfl, d1⟩ ?_ ?_
  · rintro i σ H2 hi ⟨x2, x3, x4, x5, rfl, d2⟩
    walk_at "go"
    intro v3 H3 h30 h31 bu3 d3
    walk_at "go"
    intro n4 H4 hn4 bu4 d4
    walk_at "go"
    intro v5 H5 h50 h51 bu5 d5
    walk_at "go"
    intro n6 H6 hn6 bu6 d6
    walk_at "go"
    have l4 : n4.natAbs < 2 ^ 400 := Nat.lt_of_le_of_lt hn4 (by decide +kernel)
    have l6 : n6.natAbs < 2 ^ 400 := Nat.lt_of_le_of_lt hn6 (by decide +kernel)
    refine ⟨fun σ' H' => ∃ (b : Int), b.natAbs < 2 ^ 400 ∧ σ' = [some (.ref a), some (.ref D), some (.int (0 + i)), some (.int v3), some (.int n4), some (.int b)] ∧ DeckAt H' D, ?_, ?_⟩
    · walk_at "go"
      intro v7 H7 h70 h71 bu7 d7
      walk_at "go"
      refine ite2 (fun h => ?_) (fun h => ?_)
      · walk_at "go"
        intro p np
        refine ⟨_, rfl, _, _, rfl, d7.ex (ex_new np), by decide, by decide, fun v8 H8 h80 h81 bu8 d8 => ?_⟩
        have hT := bu8 _ _ (d7.ne np) upd_same
        obtain rfl | rfl | rfl | rfl : v8 = 0 ∨ v8 = 1 ∨ v8 = 2 ∨ v8 = 3 := by omega
        · walk_at "go"; exact ⟨_, (show (0 : Int).natAbs < 2 ^ 400 by decide), rfl, d8⟩
        · walk_at "go"; exact ⟨_, (show (1 : Int).natAbs < 2 ^ 400 by decide), rfl, d8⟩
        · walk_at "go"; exact ⟨_, (show (-1 : Int).natAbs < 2 ^ 400 by decide), rfl, d8⟩
        · walk_at "go"; exact ⟨_, l4, rfl, d8⟩
      · exact ⟨_, l6, rfl, d7⟩
    · rintro σ' H7 ⟨b, hb, rfl, d7⟩
      walk_at "go"
      refine ⟨_, _, _, rfl, d7, l4, hb, fun H8 bu8 d8 => ?_⟩
      walk_at "go"
      exact ⟨_, _, _, _, rfl, d8⟩
  · rintro σ H2 ⟨x2, x3, x4, x5, rfl, d2⟩
    walk_at "go"
    exact q _
end
end K1
namespace K1
open PySem PySem.Spec PyProof.Rows L2 Qj
theorem exm_same {K : PySem.W.Frag} {S : Addr} (b : PySem.W.subIn K (.ref S) (.type "BaseException") = some true) (i : PySem.W.isClsIn K S = true) (t : PySem.W.typeIn K (.ref S) = some (.type "type")) (s : PySem.W.subIn K (.ref S) (.ref S) = some true) : PySem.W.exmOne K (.ref S) (.ref S) = some true := by
  have i2 : (PySem.W.clsIn K S).isSome = true := i
  unfold PySem.W.exmOne PySem.W.kitCls
  rw [if_pos (by rw [b]; rfl)]
  dsimp only
  rw [if_pos (by rw [i2, t]; rfl)]
  exact s
def mkTxt {K : PySem.W.Frag} {h : Heap} {mg : Str → Option Value} (X : K.In h) (G : h.Ns mainGlobals mg)
    {f_is_whole : Addr} {oc_is_whole kV_is_whole dc_is_whole pm_is_whole cd_is_whole ct_is_whole : Value} {od_is_whole an_is_whole : Option Addr} {sl_is_whole : Array (Option Value)}
    (a_is_whole : PySem.W.nsIn K mainGlobals "is_whole" = some (some (.ref f_is_whole))) (l_is_whole : K.lookup f_is_whole = some ⟨oc_is_whole, od_is_whole, .func (PySem.W.fnOf "is_whole" "is_whole" (defArgs s_is_whole) (defBody s_is_whole) (defScope s_is_whole) .none kV_is_whole dc_is_whole pm_is_whole an_is_whole cd_is_whole ct_is_whole), sl_is_whole⟩) (c_is_whole : PySem.W.codeIn K cd_is_whole "is_whole" = true) (k_is_whole : PySem.W.keepIn K (.ref f_is_whole) = true)
    {f_is_fraction : Addr} {oc_is_fraction kV_is_fraction dc_is_fraction pm_is_fraction cd_is_fraction ct_is_fraction : Value} {od_is_fraction an_is_fraction : Option Addr} {sl_is_fraction : Array (Option Value)}
    (a_is_fraction : PySem.W.nsIn K mainGlobals "is_fraction" = some (some (.ref f_is_fraction))) (l_is_fraction : K.lookup f_is_fraction = some ⟨oc_is_fraction, od_is_fraction, .func (PySem.W.fnOf "is_fraction" "is_fraction" (defArgs s_is_fraction) (defBody s_is_fraction) (defScope s_is_fraction) .none kV_is_fraction dc_is_fraction pm_is_fraction an_is_fraction cd_is_fraction ct_is_fraction), sl_is_fraction⟩) (c_is_fraction : PySem.W.codeIn K cd_is_fraction "is_fraction" = true) (k_is_fraction : PySem.W.keepIn K (.ref f_is_fraction) = true)
    {f__lowest : Addr} {oc__lowest kV__lowest dc__lowest pm__lowest cd__lowest ct__lowest : Value} {od__lowest an__lowest : Option Addr} {sl__lowest : Array (Option Value)}
    (a__lowest : PySem.W.nsIn K mainGlobals "_lowest" = some (some (.ref f__lowest))) (l__lowest : K.lookup f__lowest = some ⟨oc__lowest, od__lowest, .func (PySem.W.fnOf "_lowest" "_lowest" (defArgs s__lowest) (defBody s__lowest) (defScope s__lowest) .none kV__lowest dc__lowest pm__lowest an__lowest cd__lowest ct__lowest), sl__lowest⟩) (c__lowest : PySem.W.codeIn K cd__lowest "_lowest" = true) (k__lowest : PySem.W.keepIn K (.ref f__lowest) = true)
    {f__law_deck : Addr} {oc__law_deck kV__law_deck dc__law_deck pm__law_deck cd__law_deck ct__law_deck : Value} {od__law_deck an__law_deck : Option Addr} {sl__law_deck : Array (Option Value)}
    (a__law_deck : PySem.W.nsIn K mainGlobals "_law_deck" = some (some (.ref f__law_deck))) (l__law_deck : K.lookup f__law_deck = some ⟨oc__law_deck, od__law_deck, .func (PySem.W.fnOf "_law_deck" "_law_deck" (defArgs s__law_deck) (defBody s__law_deck) (defScope s__law_deck) .none kV__law_deck dc__law_deck pm__law_deck an__law_deck cd__law_deck ct__law_deck), sl__law_deck⟩) (c__law_deck : PySem.W.codeIn K cd__law_deck "_law_deck" = true) (k__law_deck : PySem.W.keepIn K (.ref f__law_deck) = true)
    {f__law_take : Addr} {oc__law_take kV__law_take dc__law_take pm__law_take cd__law_take ct__law_take : Value} {od__law_take an__law_take : Option Addr} {sl__law_take : Array (Option Value)}
    (a__law_take : PySem.W.nsIn K mainGlobals "_law_take" = some (some (.ref f__law_take))) (l__law_take : K.lookup f__law_take = some ⟨oc__law_take, od__law_take, .func (PySem.W.fnOf "_law_take" "_law_take" (defArgs s__law_take) (defBody s__law_take) (defScope s__law_take) .none kV__law_take dc__law_take pm__law_take an__law_take cd__law_take ct__law_take), sl__law_take⟩) (c__law_take : PySem.W.codeIn K cd__law_take "_law_take" = true) (k__law_take : PySem.W.keepIn K (.ref f__law_take) = true)
    {f__law_frac : Addr} {oc__law_frac kV__law_frac dc__law_frac pm__law_frac cd__law_frac ct__law_frac : Value} {od__law_frac an__law_frac : Option Addr} {sl__law_frac : Array (Option Value)}
    (a__law_frac : PySem.W.nsIn K mainGlobals "_law_frac" = some (some (.ref f__law_frac))) (l__law_frac : K.lookup f__law_frac = some ⟨oc__law_frac, od__law_frac, .func (PySem.W.fnOf "_law_frac" "_law_frac" (defArgs s__law_frac) (defBody s__law_frac) (defScope s__law_frac) .none kV__law_frac dc__law_frac pm__law_frac an__law_frac cd__law_frac ct__law_frac), sl__law_frac⟩) (c__law_frac : PySem.W.codeIn K cd__law_frac "_law_frac" = true) (k__law_frac : PySem.W.keepIn K (.ref f__law_frac) = true)
    {f__law_number : Addr} {oc__law_number kV__law_number dc__law_number pm__law_number cd__law_number ct__law_number : Value} {od__law_number an__law_number : Option Addr} {sl__law_number : Array (Option Value)}
    (a__law_number : PySem.W.nsIn K mainGlobals "_law_number" = some (some (.ref f__law_number))) (l__law_number : K.lookup f__law_number = some ⟨oc__law_number, od__law_number, .func (PySem.W.fnOf "_law_number" "_law_number" (defArgs s__law_number) (defBody s__law_number) (defScope s__law_number) .none kV__law_number dc__law_number pm__law_number an__law_number cd__law_number ct__law_number), sl__law_number⟩) (c__law_number : PySem.W.codeIn K cd__law_number "_law_number" = true) (k__law_number : PySem.W.keepIn K (.ref f__law_number) = true)
    {f__law_made : Addr} {oc__law_made kV__law_made dc__law_made pm__law_made cd__law_made ct__law_made : Value} {od__law_made an__law_made : Option Addr} {sl__law_made : Array (Option Value)}
    (a__law_made : PySem.W.nsIn K mainGlobals "_law_made" = some (some (.ref f__law_made))) (l__law_made : K.lookup f__law_made = some ⟨oc__law_made, od__law_made, .func (PySem.W.fnOf "_law_made" "_law_made" (defArgs s__law_made) (defBody s__law_made) (defScope s__law_made) .none kV__law_made dc__law_made pm__law_made an__law_made cd__law_made ct__law_made), sl__law_made⟩) (c__law_made : PySem.W.codeIn K cd__law_made "_law_made" = true) (k__law_made : PySem.W.keepIn K (.ref f__law_made) = true)
    {f__law_odd : Addr} {oc__law_odd kV__law_odd dc__law_odd pm__law_odd cd__law_odd ct__law_odd : Value} {od__law_odd an__law_odd : Option Addr} {sl__law_odd : Array (Option Value)}
    (a__law_odd : PySem.W.nsIn K mainGlobals "_law_odd" = some (some (.ref f__law_odd))) (l__law_odd : K.lookup f__law_odd = some ⟨oc__law_odd, od__law_odd, .func (PySem.W.fnOf "_law_odd" "_law_odd" (defArgs s__law_odd) (defBody s__law_odd) (defScope s__law_odd) .none kV__law_odd dc__law_odd pm__law_odd an__law_odd cd__law_odd ct__law_odd), sl__law_odd⟩) (c__law_odd : PySem.W.codeIn K cd__law_odd "_law_odd" = true) (k__law_odd : PySem.W.keepIn K (.ref f__law_odd) = true)
    {f__law_told : Addr} {oc__law_told kV__law_told dc__law_told pm__law_told cd__law_told ct__law_told : Value} {od__law_told an__law_told : Option Addr} {sl__law_told : Array (Option Value)}
    (a__law_told : PySem.W.nsIn K mainGlobals "_law_told" = some (some (.ref f__law_told))) (l__law_told : K.lookup f__law_told = some ⟨oc__law_told, od__law_told, .func (PySem.W.fnOf "_law_told" "_law_told" (defArgs s__law_told) (defBody s__law_told) (defScope s__law_told) .none kV__law_told dc__law_told pm__law_told an__law_told cd__law_told ct__law_told), sl__law_told⟩) (c__law_told : PySem.W.codeIn K cd__law_told "_law_told" = true) (k__law_told : PySem.W.keepIn K (.ref f__law_told) = true)
    {f__law_right : Addr} {oc__law_right kV__law_right dc__law_right pm__law_right cd__law_right ct__law_right : Value} {od__law_right an__law_right : Option Addr} {sl__law_right : Array (Option Value)}
    (a__law_right : PySem.W.nsIn K mainGlobals "_law_right" = some (some (.ref f__law_right))) (l__law_right : K.lookup f__law_right = some ⟨oc__law_right, od__law_right, .func (PySem.W.fnOf "_law_right" "_law_right" (defArgs s__law_right) (defBody s__law_right) (defScope s__law_right) .none kV__law_right dc__law_right pm__law_right an__law_right cd__law_right ct__law_right), sl__law_right⟩) (c__law_right : PySem.W.codeIn K cd__law_right "_law_right" = true) (k__law_right : PySem.W.keepIn K (.ref f__law_right) = true)
    {f_law : Addr} {oc_law kV_law dc_law pm_law cd_law ct_law : Value} {od_law an_law : Option Addr} {sl_law : Array (Option Value)}
    (a_law : PySem.W.nsIn K mainGlobals "law" = some (some (.ref f_law))) (l_law : K.lookup f_law = some ⟨oc_law, od_law, .func (PySem.W.fnOf "law" "law" (defArgs s_law) (defBody s_law) (defScope s_law) .none kV_law dc_law pm_law an_law cd_law ct_law), sl_law⟩) (c_law : PySem.W.codeIn K cd_law "law" = true) (k_law : PySem.W.keepIn K (.ref f_law) = true)
    (z_abs : PySem.W.nsIn K mainGlobals "abs" = some none)
    (z_bool : PySem.W.nsIn K mainGlobals "bool" = some none)
    (z_int : PySem.W.nsIn K mainGlobals "int" = some none)
    (z_isinstance : PySem.W.nsIn K mainGlobals "isinstance" = some none)
    (z_len : PySem.W.nsIn K mainGlobals "len" = some none)
    (z_range : PySem.W.nsIn K mainGlobals "range" = some none)
    (z_repr : PySem.W.nsIn K mainGlobals "repr" = some none)
    (z_str : PySem.W.nsIn K mainGlobals "str" = some none)
    (z_tuple : PySem.W.nsIn K mainGlobals "tuple" = some none)
    (z_gcd : PySem.W.nsIn K mainGlobals "gcd" = some (some (.builtin "math.gcd")))
    {fr dT : Addr} {nT : Nat} {oc_f kV_f dc_f pm_f cd_f ct_f : Value} {od_f an_f : Option Addr} {sl_f : Array (Option Value)} (a_fr : PySem.W.nsIn K mainGlobals "fraction" = some (some (.ref fr))) (l_fr : K.lookup fr = some ⟨oc_f, od_f, .func (PySem.W.fnOf "fraction" "fraction" (defArgs s_fraction) (defBody s_fraction) (defScope s_fraction) (.ref dT) kV_f dc_f pm_f an_f cd_f ct_f), sl_f⟩) (c_fr : PySem.W.codeIn K cd_f "fraction" = true) (k_fr : PySem.W.keepIn K (.ref fr) = true)
    {ocT : Value} {odT : Option Addr} {slT : Array (Option Value)} {tkT : Tok} (l_dT : K.lookup dT = some ⟨ocT, odT, .seq #[.int 1 tkT] nT, slT⟩)
    {cC : Addr} (a_C : PySem.W.nsIn K mainGlobals "NoFraction" = some (some (.ref cC))) (k_C : PySem.W.keepIn K (.ref cC) = true) (x_C : PySem.W.excIn K cC [.type "ValueError", .type "Exception", .type "BaseException", .type "object"] "ValueError.__new__" = true) (b_C : PySem.W.subIn K (.ref cC) (.type "BaseException") = some true) (t_C : PySem.W.typeIn K (.ref cC) = some (.type "type")) (i_C : PySem.W.isClsIn K cC = true) (s_C : PySem.W.subIn K (.ref cC) (.ref cC) = some true) : Txt K mg where
    is_whole := def_mk X G a_is_whole l_is_whole c_is_whole k_is_whole (fun _ _ _ _ _ _ us hl => match us, hl with | [_], _ => rfl)
    is_fraction := def_mk X G a_is_fraction l_is_fraction c_is_fraction k_is_fraction (fun _ _ _ _ _ _ us hl => match us, hl with | [_], _ => rfl)
    _lowest := def_mk X G a__lowest l__lowest c__lowest k__lowest (fun _ _ _ _ _ _ us hl => match us, hl with | [_, _], _ => rfl)
    _law_deck := def_mk X G a__law_deck l__law_deck c__law_deck k__law_deck (fun _ _ _ _ _ _ us hl => match us, hl with | [_], _ => rfl)
    _law_take := def_mk X G a__law_take l__law_take c__law_take k__law_take (fun _ _ _ _ _ _ us hl => match us, hl with | [_, _], _ => rfl)
    _law_frac := def_mk X G a__law_frac l__law_frac c__law_frac k__law_frac (fun _ _ _ _ _ _ us hl => match us, hl with | [_, _], _ => rfl)
    _law_number := def_mk X G a__law_number l__law_number c__law_number k__law_number (fun _ _ _ _ _ _ us hl => match us, hl with | [_, _], _ => rfl)
    _law_made := def_mk X G a__law_made l__law_made c__law_made k__law_made (fun _ _ _ _ _ _ us hl => match us, hl with | [_, _], _ => rfl)
    _law_odd := def_mk X G a__law_odd l__law_odd c__law_odd k__law_odd (fun _ _ _ _ _ _ us hl => match us, hl with | [_, _, _], _ => rfl)
    _law_told := def_mk X G a__law_told l__law_told c__law_told k__law_told (fun _ _ _ _ _ _ us hl => match us, hl with | [_, _], _ => rfl)
    _law_right := def_mk X G a__law_right l__law_right c__law_right k__law_right (fun _ _ _ _ _ _ us hl => match us, hl with | [_, _, _], _ => rfl)
    law := def_mk X G a_law l_law c_law k_law (fun _ _ _ _ _ _ us hl => match us, hl with | [_], _ => rfl)
    m_abs := PySem.W.mg_none_of X G z_abs
    m_bool := PySem.W.mg_none_of X G z_bool
    m_int := PySem.W.mg_none_of X G z_int
    m_isinstance := PySem.W.mg_none_of X G z_isinstance
    m_len := PySem.W.mg_none_of X G z_len
    m_range := PySem.W.mg_none_of X G z_range
    m_repr := PySem.W.mg_none_of X G z_repr
    m_str := PySem.W.mg_none_of X G z_str
    m_tuple := PySem.W.mg_none_of X G z_tuple
    g_gcd := PySem.W.mg_of X G z_gcd
    frF := fr
    frD := PySem.W.fnOf "fraction" "fraction" (defArgs s_fraction) (defBody s_fraction) (defScope s_fraction) (.ref dT) kV_f dc_f pm_f an_f cd_f ct_f
    frFun := ⟨⟨_, _, _, _, _, _, _, _, _, _, rfl, l_fr, c_fr, .inr ⟨by decide, dT, _, [.int 1 tkT], _, rfl, l_dT, rfl, .cons ⟨_, rfl⟩ .nil⟩, .inl rfl⟩, k_fr⟩
    frG := PySem.W.mg_of X G a_fr
    C := cC
    gC := PySem.W.mg_of X G a_C
    kC := k_C
    xC := x_C
    bC := b_C
    tC := t_C
    eC := exm_same b_C i_C t_C s_C
theorem all_mk {P : Program} {w : World} {K : PySem.W.Frag} {mg : Str → Option Value} {fa : Addr} (hfa : mg "law" = some (.ref fa)) (T : Txt K mg) :
    ∃ fd : FuncData, (∀ (s : Shared) (u : Value), BindsTo s fd ⟨[u], []⟩ [("_law_script", u)]) ∧ ∀ base : Heap, K.In base → base.Ns mainGlobals mg → FnG P w K mg base CX0 5 fa fd ["_law_script"] (spLaw K) := by
  have e := hfa.symm.trans T.law.g
  cases e
  obtain ⟨oc, od, kV, doc, pm, an, cdv, ct, osl, e, _, _⟩ := T.law.F.ex
  refine ⟨T.law.fd, fun s u => ?_, fun base _ _ => ok_law T⟩
  rw [e]
  exact .of_eq rfl
end K1
open PySem PySem.W PyProof.Rows
set_option maxHeartbeats 0 in
theorem PySem.Challenge.cw_offscale_k01_fractions_made_holds : PySem.Challenge.rw_offscale_k01_fractions_made.Holds := by
  w_on; o_law; k_head; (case hw => w_witness2)
  k_fill
  refine Qj.walk_ofG (l := PySem.Challenge.rw_offscale_k01_fractions_made) (n := 63) (k := 5) (x := "_law_script") (CX := L2.CX0) (sp := K1.spLaw) rfl (by decide) rfl ⟨rfl, by decide, by decide⟩ (fun w h Y => PySem.W.kIn_of Y) ?F (fun K H a ns hl _ hS => ⟨a, ns, rfl, hS, hl, fun _ => rfl⟩) (fun _ _ _ _ h => h)
  case F =>
    intro w mg fa h KX G hmg
    refine' K1.all_mk hmg (K1.mkTxt KX G ?a_is_whole ?l_is_whole ?c_is_whole ?k_is_whole ?a_is_fraction ?l_is_fraction ?c_is_fraction ?k_is_fraction ?a__lowest ?l__lowest ?c__lowest ?k__lowest ?a__law_deck ?l__law_deck ?c__law_deck ?k__law_deck ?a__law_take ?l__law_take ?c__law_take ?k__law_take ?a__law_frac ?l__law_frac ?c__law_frac ?k__law_frac ?a__law_number ?l__law_number ?c__law_number ?k__law_number ?a__law_made ?l__law_made ?c__law_made ?k__law_made ?a__law_odd ?l__law_odd ?c__law_odd ?k__law_odd ?a__law_told ?l__law_told ?c__law_told ?k__law_told ?a__law_right ?l__law_right ?c__law_right ?k__law_right ?a_law ?l_law ?c_law ?k_law ?z_abs ?z_bool ?z_int ?z_isinstance ?z_len ?z_range ?z_repr ?z_str ?z_tuple ?z_gcd ?a_fr ?l_fr ?c_fr ?k_fr ?l_dT ?a_C ?k_C ?x_C ?b_C ?t_C ?i_C ?s_C)
    (case a_is_whole => k_is)
    (case l_is_whole => k_is)
    (case c_is_whole => k_is)
    (case k_is_whole => k_is)
    (case a_is_fraction => k_is)
    (case l_is_fraction => k_is)
    (case c_is_fraction => k_is)
    (case k_is_fraction => k_is)
    (case a__lowest => k_is)
    (case l__lowest => k_is)
    (case c__lowest => k_is)
    (case k__lowest => k_is)
    (case a__law_deck => k_is)
    (case l__law_deck => k_is)
    (case c__law_deck => k_is)
    (case k__law_deck => k_is)
    (case a__law_take => k_is)
    (case l__law_take => k_is)
    (case c__law_take => k_is)
    (case k__law_take => k_is)
    (case a__law_frac => k_is)
    (case l__law_frac => k_is)
    (case c__law_frac => k_is)
    (case k__law_frac => k_is)
    (case a__law_number => k_is)
    (case l__law_number => k_is)
    (case c__law_number => k_is)
    (case k__law_number => k_is)
    (case a__law_made => k_is)
    (case l__law_made => k_is)
    (case c__law_made => k_is)
    (case k__law_made => k_is)
    (case a__law_odd => k_is)
    (case l__law_odd => k_is)
    (case c__law_odd => k_is)
    (case k__law_odd => k_is)
    (case a__law_told => k_is)
    (case l__law_told => k_is)
    (case c__law_told => k_is)
    (case k__law_told => k_is)
    (case a__law_right => k_is)
    (case l__law_right => k_is)
    (case c__law_right => k_is)
    (case k__law_right => k_is)
    (case a_law => k_is)
    (case l_law => k_is)
    (case c_law => k_is)
    (case k_law => k_is)
    (case z_abs => k_is)
    (case z_bool => k_is)
    (case z_int => k_is)
    (case z_isinstance => k_is)
    (case z_len => k_is)
    (case z_range => k_is)
    (case z_repr => k_is)
    (case z_str => k_is)
    (case z_tuple => k_is)
    (case z_gcd => k_is)
    (case a_fr => k_is)
    (case l_fr => k_is)
    (case c_fr => k_is)
    (case k_fr => k_is)
    (case l_dT => k_is)
    (case a_C => k_is)
    (case k_C => k_is)
    (case x_C => first | k_exc | k_is)
    (case b_C => k_is)
    (case t_C => k_is)
    (case i_C => k_is)
    (case s_C => first | rfl | k_is)
