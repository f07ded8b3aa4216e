import PyProof.Rows.All
import Wide.All
import OpenK.AllK
import Wide.FinOn
import HandS.ForSpec
import HandS.ForMost
import HandS.Evl
import HandS.Wide
import HandS.Gcd
import HandS.Small
import HandS.TryOnly
import HandS.IsInst
import HandS.EndBits
import HandS.Style
import HandS.Star
import HandS.Defaults
import HandS.RaiseMore
import PyProof.ReprRoads
import PyProof.CallFns
import PySem.Challenge.RW_offscale_k02_sums_and_order
set_option Elab.async false
set_option linter.all false
set_option maxRecDepth 100000
set_option maxHeartbeats 4000000
namespace Qj
open PySem PySem.Spec PyProof.Rows L2

/-! ### promises of defs that are called where no guard stands on the stack -/
structure FnG (P : Program) (w : World) (K : PySem.W.Frag) (mg : Str → Option Value) (base : Heap) (CX : CXT) (k : Nat) (f : Addr) (fd : FuncData) (ps : List Str) (sp : Sp) : Prop where
  len : ∀ as G Q E, sp as G Q E → as.length = ps.length
  go : ∀ (A : Around) (fr : List Env) (s : Shared) (H : Hp) (args : Args) (us : List Value) (as : List V) (Q : VK) (E : XK), Room k A → A.guards = some [] →
    Env0 P w K mg base A fr s H → BindsTo s fd args (ps.zip us) → Vals as us → sp as H Q E → codeAny (model P w) A (.call (.ref f) args) (CR CX fr P w H s Q E) s
section
variable {P : Program} {w : World} {K : PySem.W.Frag} {mg : Str → Option Value} {base : Heap} {CX : CXT}
theorem FnG.of {k : Nat} {f : Addr} {fd : FuncData} {ps : List Str} {sp : Sp} (F : FnOk P w K mg base CX k f fd ps sp) : FnG P w K mg base CX k f fd ps sp :=
  ⟨F.len, fun A fr s H args us as Q E r _ e b v h => F.run A fr s H args us as Q E r e b v h⟩
theorem FnG.up {j k : Nat} {f : Addr} {fd : FuncData} {ps : List Str} {sp : Sp} (F : FnG P w K mg base CX j f fd ps sp) (h : j ≤ k) : FnG P w K mg base CX k f fd ps sp :=
  ⟨F.len, fun A fr s H args us as Q E r g e b v z => F.go A fr s H args us as Q E (r.mono h) g e b v z⟩
theorem fnG_of {k : Nat} {f : Addr} {nm qual : Str} {prm : Arguments} {bd : List Stmt} {sc : Scope} {dV kV doc pm cdv ct oc : Value} {an od : Option Addr} {osl : Array (Option Value)} {N ps : List Str} {sp : Sp}
    (lk : K.lookup f = some ⟨oc, od, .func (PySem.W.fnOf nm qual prm bd sc dV kV doc pm an cdv ct), osl⟩) (cc : PySem.W.codeIn K cdv qual = true) (S : FnScope N ps sc) (len : ∀ as G Q E, sp as G Q E → as.length = ps.length)
    (hb : ∀ (A : Around) (fr : List Env) (s : Shared) (H : Hp) (as : List V) (Q : VK) (E : XK), Room k (A.deeper (envOfC qual sc s.heap.objs.size f cdv)) → A.guards = some [] → sp as H Q E →
      ∃ t, PSs (cxOf CX P w K mg base N qual sc f cdv A fr s H E) bd t ∧ t { nx := fun _ G => Q .non G, rt := Q } (start N as) H) :
    FnG P w K mg base CX (k + 1) f (PySem.W.fnOf nm qual prm bd sc dV kV doc pm an cdv ct) ps sp := by
  constructor
  · exact len
  · intro A fr s H args us as Q E rm gd e0 bt va hsp
    have la := len _ _ _ _ hsp
    have KS : K.In s.heap := e0.mod.kin.keeps (fun b o z => (e0.bs b o z).1)
    have NL : s.heap.NoLimit := e0.mod.nolimit.keeps (fun b o z => (e0.bs b o z).1)
    have kinds : ∀ q ∈ ps.zip us, sc.names.lookup q.1 = some .local ∨ (sc.names.lookup q.1 = some .cell ∧ ((cellsFrom (s.heap.objs.size + 1) sc.names []).lookup q.1).isSome = true) := by
      intro q hq
      obtain ⟨n, v⟩ := q
      have hn := (List.of_mem_zip hq).1
      cases S.par n hn with
      | inl z => exact Or.inl z
      | inr z => exact Or.inr ⟨z, PySem.W.cellsFrom_some _ _ _ (Or.inl z)⟩
    refine codeAny_call_function rm.depth (KS _ _ lk) rfl S.co S.gen rfl (PySem.W.codeRec_of KS cc) (bt _ _ _ _ ?_)
    refine wpAny_newFunctionEnv_cells S.kind kinds (fun ev he s1 x => ?_)
    cases he
    refine ⟨NL.keeps x.toInCall.keep, codeAny_func ?_⟩
    obtain ⟨t, pt, ht⟩ := hb A fr s H as Q E (rm.deeper _) gd hsp
    have I0 : Inv (cxOf CX P w K mg base N qual sc f cdv A fr s H E) [] (start N as) H s1 := inv_start S rm.hd e0 la va x
    have back : ∀ {τ : L2.St} {G : Hp} {v : V} {u : Value} {s2 : Shared}, Inv (cxOf CX P w K mg base N qual sc f cdv A fr s H E) [] τ G s2 → RelV v u → Q v G → CE fr P w H s Q u s2 := by
      intro τ G v u s2 J rv q
      exact ⟨v, G, J.os, J.bare, J.base, J.hok, rv, q⟩
    refine wpAny_mono (pt.run [] s1 (start N as) H _ I0 ht) (fun fl s2 hs => ?_) (fun e s2 hs => hs)
    cases fl with
    | ret u =>
      obtain ⟨v, τ, G, J, rv, q⟩ := hs
      exact back J rv q
    | next =>
      obtain ⟨τ, G, J, q⟩ := hs
      exact back (v := V.non) (u := Value.none) J rfl q
    | brk =>
      obtain ⟨_, _, _, q⟩ := hs
      exact q.elim
    | cont =>
      obtain ⟨_, _, _, q⟩ := hs
      exact q.elim
theorem okG {x qual : Str} {st : Stmt} {f : Addr} {fd : FuncData} {N ps : List Str} {k : Nat} {sp : Sp} (F : Fun K x qual st f fd) (S : FnScope N ps (defScope st)) (len : ∀ as G Q E, sp as G Q E → as.length = ps.length)
    (hb : ∀ (cdv : Value) (A : Around) (fr : List Env) (s : Shared) (H : Hp) (as : List V) (Q : VK) (E : XK), Room k (A.deeper (envOfC qual (defScope st) s.heap.objs.size f cdv)) → A.guards = some [] → sp as H Q E →
      ∃ t, PSs (cxOf CX P w K mg base N qual (defScope st) f cdv A fr s H E) (defBody st) t ∧ t { nx := fun _ G => Q .non G, rt := Q } (start N as) H) : FnG P w K mg base CX (k + 1) f fd ps sp := by
  obtain ⟨oc, od, kV, doc, pm, an, cdv, ct, osl, e, lk, cc⟩ := F.ex
  subst e
  exact fnG_of lk cc S len (fun A fr s H as Q E r g h => hb cdv A fr s H as Q E r g h)
end
section
variable {X : Cx} {CX : CXT} {k : Nat} {f : Addr} {fd : FuncData} {ps : List Str} {sp : Sp} {dvs : List V} {ds : List Value} {E : XK} {x : Str} {p pos : Pos} {e : Expr} {es : List Expr} {t : TA}
theorem run_g {pins : List (Addr × Obj)} {σ : L2.St} {H : Hp} {s : Shared} {Q : VK} {us : List Value} {as : List V} (F : FnG X.prog X.w X.K X.mg X.base CX k f fd ps sp) (rm : Room k X.A) (gd : X.A.guards = some []) (hb : Binds X.K fd ps ds)
    (hd : Vals dvs ds) (hx : Passes CX X E) (I : Inv X pins σ H s) (r : Vals as us) (h : sp (as ++ dvs) H Q E) : wpAny (model X.prog X.w) X.A (call (.ref f) us) (EP X pins σ Q) X.xe s := by
  have both : Vals (as ++ dvs) (us ++ ds) := r.append hd
  have hl : (us ++ ds).length = ps.length := both.length.symm.trans (F.len _ _ _ _ h)
  have c := F.go X.A X.stack s H ⟨us, []⟩ (us ++ ds) (as ++ dvs) Q E rm gd I.env0 (hb s us I.kIn hl) both h
  refine wpAny_call (codeAny_mono c (fun r2 s2 hq => ?_))
  cases r2 with
  | error e2 => exact hx pins σ H s e2 s2 I hq
  | ok fl =>
    cases fl with
    | ret u => exact I.after hq
    | next => exact hq.elim
    | brk => exact hq.elim
    | cont => exact hq.elim
theorem pe_callG (F : FnG X.prog X.w X.K X.mg X.base CX k f fd ps sp) (rm : Room k X.A) (gd : X.A.guards = some []) (hg : Gl X x) (hm : X.mg x = some (.ref f)) (kp : PySem.W.keepIn X.K (.ref f) = true) (hb : Binds X.K fd ps ds) (hd : Vals dvs ds) (hx : Passes CX X E)
    (ha : PA X (e :: es) t) (h1 : (x == ("__debug__" : Str)) = false := by decide) (h2 : starEach (e :: es) X.env = (false, eval e X.env) :: starEach es X.env := by rfl) (h3 : (backTo pos (starEach es X.env)).any (·.1) = false := by rfl) :
    PE X (.Call (.Name x p) (e :: es) [] pos) (tCall sp dvs E t) := by
  constructor
  intro pins s σ H Q I h
  refine wpAny_Call_Name_kw (ld_glob I hg hm ?_ h1)
  exact PySem.W.callWith_K (h₀ := X.base) I.ok.mod.kin kp (thn (ha.run pos pins s σ H _ I h) (fun us s1 z => by
    obtain ⟨vs, H1, I1, r, q⟩ := z
    exact ⟨I1.kIn, run_g F rm gd hb hd hx I1 r q⟩)) h2 h3

/-- C(), C an own exception class without own __init__ -/
theorem pmk_own0 {C : Addr} {bmB : List Value} {B newId initId : String} (F : ExcBaseFacts B newId initId bmB) (q : PySem.W.excIn X.K C bmB newId = true) (gC : X.mg x = some (.ref C))
    (kC : PySem.W.keepIn X.K (.ref C) = true) (r : Raises X (.ref C)) (hg : Gl X x) (h1 : (x == ("__debug__" : Str)) = false := by decide) :
    PMk X (.Call (.Name x p) [] [] pos) (fun _ H Q => Q (.ref C) none H) := by
  intro pins s σ H Q I h
  refine wpAny_Call_Name_kw (ld_glob I hg gC ?_ h1)
  refine PySem.W.callWith_K0 I.kIn kC ?_
  obtain ⟨bm, N, nm, qn, bs, hdct, sn, sub, ab, col, dd, k0, k1, k2, k3, k5, mN, hC, hN, hni, T⟩ := exc_obj I.kIn q
  show wpAny _ _ (call (.ref C) []) _ _ _
  refine wpAny_call_exc_subT F T hC hN hni (fun h' e2 hm => ?_) (Nat.zero_le _)
  exact mk_of I hm r h (I.hok.gone hm.new)

end

/-! ### repr of data -/
/-- small enough data: n its weight, m its depth -/
structure Okd (d : PyData) (n m : Nat) : Prop where
  sh : d.showable = true
  nd : d.hasDict = false
  lv : d.leavesShort 1001 = true
  wt : d.weight ≤ n
  dp : d.depth ≤ m
structure OkA (ds : List PyData) (n m : Nat) : Prop where
  sh : PyData.showableAll ds = true
  nd : PyData.hasDictAll ds = false
  lv : PyData.leavesShortAll 1001 ds = true
  wt : PyData.weightAll ds ≤ n
  dp : PyData.depthAll ds ≤ m
theorem okd_int {i : Int} {k : Nat} (h : i.natAbs < 2 ^ k) (h0 : 0 < k) (hk : k ≤ 1000) : Okd (.int i) k 0 := by
  have hl : i.natAbs.log2 < k := PySem.Flt.log2_lt_of h0 h
  refine ⟨?_, ?_, ?_, ?_, ?_⟩
  · simp only [PyData.showable, decide_eq_true_eq]
    omega
  · simp only [PyData.hasDict]
  · simp only [PyData.leavesShort, decide_eq_true_eq]
    show (Str.ofString (toString i)).length ≤ 1001
    have e := int_text_length_le (a := i) (k := 1000) (by decide) (by omega)
    rw [PySem.ofString_length]
    exact e
  · simp only [PyData.weight]
    split
    · omega
    · omega
  · simp only [PyData.depth]
    omega
theorem okd_bl {b : Bool} : Okd (.bool b) 0 0 := by
  refine ⟨?_, ?_, ?_, ?_, ?_⟩
  · simp only [PyData.showable]
  · simp only [PyData.hasDict]
  · simp only [PyData.leavesShort]
  · simp only [PyData.weight]; omega
  · simp only [PyData.depth]; omega
theorem okd_non : Okd .none 0 0 := by
  refine ⟨?_, ?_, ?_, ?_, ?_⟩
  · simp only [PyData.showable]
  · simp only [PyData.hasDict]
  · simp only [PyData.leavesShort]
  · simp only [PyData.weight]; omega
  · simp only [PyData.depth]; omega
theorem oka_nil : OkA [] 0 0 := by
  refine ⟨?_, ?_, ?_, ?_, ?_⟩
  · simp only [PyData.showableAll]
  · simp only [PyData.hasDictAll]
  · simp only [PyData.leavesShortAll]
  · simp only [PyData.weightAll]; omega
  · simp only [PyData.depthAll]; omega
theorem oka_cons {d : PyData} {ds : List PyData} {a b n m : Nat} (h : Okd d a b) (t : OkA ds n m) : OkA (d :: ds) (a + 1 + n) (max b m) := by
  refine ⟨?_, ?_, ?_, ?_, ?_⟩
  · simp only [PyData.showableAll, h.sh, t.sh, Bool.and_self]
  · simp only [PyData.hasDictAll, h.nd, t.nd, Bool.or_self]
  · simp only [PyData.leavesShortAll, h.lv, t.lv, Bool.and_self]
  · simp only [PyData.weightAll]
    have := h.wt
    have := t.wt
    omega
  · simp only [PyData.depthAll]
    have := h.dp
    have := t.dp
    omega
theorem okd_tup {ds : List PyData} {n m : Nat} (t : OkA ds n m) : Okd (.tuple ds) n (m + 1) := by
  refine ⟨?_, ?_, ?_, ?_, ?_⟩
  · simp only [PyData.showable, t.sh]
  · simp only [PyData.hasDict, t.nd]
  · simp only [PyData.leavesShort, t.lv]
  · simp only [PyData.weight]
    exact t.wt
  · simp only [PyData.depth]
    have := t.dp
    omega
theorem okd_lst {ds : List PyData} {n m : Nat} (t : OkA ds n m) : Okd (.list ds) n (m + 1) := by
  refine ⟨?_, ?_, ?_, ?_, ?_⟩
  · simp only [PyData.showable, t.sh]
  · simp only [PyData.hasDict, t.nd]
  · simp only [PyData.leavesShort, t.lv]
  · simp only [PyData.weight]
    exact t.wt
  · simp only [PyData.depth]
    have := t.dp
    omega
theorem Okd.size {d : PyData} {n m : Nat} (h : Okd d n m) (hn : n ≤ 16000) : d.shown.length ≤ sizeLine := by
  have e := PyData.shown_le 1001 (by decide) d h.lv
  have := h.wt
  rw [sizeLine_eq]
  omega
def rRepr (K : PySem.W.Frag) : List V → Hp → VK → Prop := fun xs H Q => ∃ (v : V) (d : PyData) (n m : Nat), xs = [v] ∧ Dp K H v d ∧ Okd d n m ∧ n ≤ 16000 ∧ m ≤ 60 ∧ Q (.str d.shown) H
section
variable {X : Cx}
theorem cr_repr (hg : X.A.guards = some []) (hu : X.A.units + 64 < cLine) : CallR X (.builtin "repr") (rRepr X.K) := by
  intro pins s σ H xs us Q I r h
  obtain ⟨v, d, n, m, e, hd, ok, hn, hm, q⟩ := h
  subst e
  obtain ⟨u, hus, ru⟩ := vals1 r
  subst hus
  have sz := ok.size hn
  obtain ⟨as, rd⟩ := Dp.reads I d v u hd ru
  have hd2 := ok.dp
  cases rd with
  | none => exact PySem.P.repr_of_none ⟨.str _, H, I.tok _, ⟨_, rfl⟩, q⟩
  | bool b =>
    refine PySem.P.repr_of_bool ⟨.str _, H, I.tok _, ⟨_, rfl⟩, ?_⟩
    exact q
  | int i t =>
    have hs := ok.sh
    simp only [PyData.showable, decide_eq_true_eq] at hs
    exact PySem.P.repr_of_int hs ⟨.str _, H, I.tok _, ⟨_, rfl⟩, q⟩
  | str x t => exact PySem.P.repr_of_str ⟨.str _, H, I.tok _, ⟨_, rfl⟩, q⟩ sz
  | list a b c e =>
    exact repr_of_reads' (.list a b c e) ok.sh (fun z => by rw [ok.nd] at z; cases z) hg (by omega) (fun _ _ z => z) (fun h' u2 tk k => ⟨.str _, H, I.kept k, ⟨_, rfl⟩, q⟩) sz
  | tuple a b c e =>
    exact repr_of_reads' (.tuple a b c e) ok.sh (fun z => by rw [ok.nd] at z; cases z) hg (by omega) (fun _ _ z => z) (fun h' u2 tk k => ⟨.str _, H, I.kept k, ⟨_, rfl⟩, q⟩) sz
  | dict a b c e f =>
    have z := ok.nd
    simp only [PyData.hasDict] at z
    cases z
end
end Qj
namespace Qj
open PySem PySem.Spec PyProof.Rows L2
/-! ### a def of the text, where it stands -/
structure Def (K : PySem.W.Frag) (mg : Str → Option Value) (x : Str) (st : Stmt) (ps : List Str) where
  f : Addr
  fd : FuncData
  F : Fun K x x st f fd
  g : mg x = some (.ref f)
  b : Binds K fd ps []
def def_mk {K : PySem.W.Frag} {mg : Str → Option Value} {h : Heap} {x : Str} {st : Stmt} {ps : List Str} (X : K.In h) (G : h.Ns mainGlobals mg) {f : Addr} {oc : Value} {od an : Option Addr} {osl : Array (Option Value)} {kV dc pm cd ct : Value}
    (a : PySem.W.nsIn K mainGlobals x = some (some (.ref f))) (l : K.lookup f = some ⟨oc, od, .func (PySem.W.fnOf x x (defArgs st) (defBody st) (defScope st) .none kV dc pm an cd ct), osl⟩) (c : PySem.W.codeIn K cd x = true) (k : PySem.W.keepIn K (.ref f) = true)
    (hb : ∀ (kV doc pm : Value) (an : Option Addr) (cdv ct : Value) (us : List Value), us.length = ps.length → bindArgs (PySem.W.fnOf x x (defArgs st) (defBody st) (defScope st) .none kV doc pm an cdv ct) ⟨us, []⟩ = pure (ps.zip us)) : Def K mg x st ps where
  f := f
  fd := PySem.W.fnOf x x (defArgs st) (defBody st) (defScope st) .none kV dc pm an cd ct
  F := fun_mk l c k
  g := PySem.W.mg_of X G a
  b := (fun_mk (x := x) (qual := x) (st := st) l c k).binds hb

/-! ### heaps that grow -/
theorem ex_new {H : Hp} {p : Addr} {o : HO} (h : H p = none) : Evl.Ex H (upd H p o) := Evl.Ex.new h
/-- all but D stands -/
def Bu (D : Addr) (H H' : Hp) : Prop := ∀ a o, a ≠ D → H a = some o → H' a = some o
theorem Bu.refl (D : Addr) (H : Hp) : Bu D H H := fun _ _ _ h => h
theorem Bu.trans {D : Addr} {H H1 H2 : Hp} (a : Bu D H H1) (b : Bu D H1 H2) : Bu D H H2 := fun x o n h => b x o n (a x o n h)
theorem Bu.of {D : Addr} {H H' : Hp} (e : Evl.Ex H H') : Bu D H H' := fun a o _ h => e a o h
theorem Bu.upd {D : Addr} {H : Hp} {o : HO} : Bu D H (upd H D o) := fun a u n h => by
  rw [upd_ne n]
  exact h
theorem Bu.new {D p : Addr} {H : Hp} {o : HO} (h : H p = none) : Bu D H (L2.upd H p o) := Bu.of (ex_new h)
/-- the drawn deck stands at D -/
def DeckAt (H : Hp) (D : Addr) : Prop := ∃ g m c : Int, H D = some (.lst [.int g, .int m, .int c]) ∧ -(2 ^ 62) < m ∧ m < 2 ^ 62
theorem DeckAt.ex {H H' : Hp} {D : Addr} (d : DeckAt H D) (e : Evl.Ex H H') : DeckAt H' D := by
  obtain ⟨g, m, c, h, b⟩ := d
  exact ⟨g, m, c, e _ _ h, b⟩
theorem DeckAt.ne {H : Hp} {D p : Addr} (d : DeckAt H D) (h : H p = none) : p ≠ D := by
  obtain ⟨g, m, c, e, _⟩ := d
  exact (ne_of_none e h).symm

/-! ### operators -/
def CDivA (_ j : Int) : Prop := j ≠ 0 ∧ j.natAbs.log2 < 9000
section
variable {X : Cx}
theorem op_fdivA : OpR X (binaryOp .FloorDiv) (rI CDivA fun i j => .int (i.fdiv j)) := opI fun i j _ _ _ _ _ hc q => floordiv_int hc.1 q (.inl (PyProof.noPylong_of_log2 hc.2))
end
/-! ### the promises that all laws' helpers share -/
theorem sz4 {n : Nat} (h : Nat.ble n 1000 = true := by rfl) : n ≤ sizeLine := Nat.le_trans (Nat.le_of_ble_eq_true h) (by decide)
def spTake : Sp := fun vs H Q _ => ∃ (D : Addr) (lim : Int), vs = [.ref D, .int lim] ∧ DeckAt H D ∧ 0 < lim ∧ lim < 2 ^ 63 ∧ ∀ (v : Int) (H' : Hp), 0 ≤ v → v < lim → Bu D H H' → DeckAt H' D → Q (.int v) H'
def spDeck (K : PySem.W.Frag) : Sp := fun vs H Q _ => ∃ (a : Addr) (ns : List Int), vs = [.ref a] ∧ SqL K H a (ns.map V.int) ∧ ns.length ≤ 63 ∧ ∀ (D : Addr) (H' : Hp), H D = none → Evl.Ex H H' → DeckAt H' D → Q (.ref D) H'
/-- lowest terms, the bottom above nought -/
def fr (t b : Int) : Int × Int := ((if 0 < b then 1 else -1) * t / ((Nat.gcd t.natAbs b.natAbs : Nat) : Int), (if 0 < b then 1 else -1) * b / ((Nat.gcd t.natAbs b.natAbs : Nat) : Int))
def frV (x : Int × Int) : HO := .tup [.int x.1, .int x.2]
def spFrac : Sp := fun vs H Q _ => ∃ t b : Int, vs = [.int t, .int b] ∧ b ≠ 0 ∧ t.natAbs < 2 ^ 8000 ∧ b.natAbs < 2 ^ 8000 ∧ ∀ p H', H p = none → Evl.Ex H H' → H' p = some (frV (fr t b)) → Q (.ref p) H'
def WF (t b : Int) (H : Hp) (m : Nat) (σ : L2.St) (H' : Hp) : Prop := ∃ x y : Int, σ = [some (.int t), some (.int b), some (.int x), some (.int y), none] ∧ 0 ≤ x ∧ 0 ≤ y ∧ Nat.gcd x.natAbs y.natAbs = Nat.gcd t.natAbs b.natAbs ∧ m = y.natAbs ∧ H' = H
theorem gcd_pos (t : Int) {b : Int} (h : b ≠ 0) : 0 < Nat.gcd t.natAbs b.natAbs := Nat.gcd_pos_of_pos_right _ (by omega)
theorem gcd_lt (t : Int) {b : Int} {k : Nat} (h : b ≠ 0) (hb : b.natAbs < k) : Nat.gcd t.natAbs b.natAbs < k := Nat.lt_of_le_of_lt (Nat.gcd_le_right _ (by omega)) hb
theorem gcd_abs (t b : Int) : Nat.gcd (if t < 0 then -t else t).natAbs (if b < 0 then -b else b).natAbs = Nat.gcd t.natAbs b.natAbs := by
  have e : ∀ x : Int, (if x < 0 then -x else x).natAbs = x.natAbs := fun x => by split <;> omega
  rw [e, e]
theorem gcd_step {x y : Int} (hx : 0 ≤ x) (hy : 0 < y) : Nat.gcd y.natAbs (x % y).natAbs = Nat.gcd x.natAbs y.natAbs := by
  obtain ⟨a, rfl⟩ := Int.eq_ofNat_of_zero_le hx
  obtain ⟨b, rfl⟩ := Int.eq_ofNat_of_zero_le (Int.le_of_lt hy)
  have e : ((a : Int) % (b : Int)).natAbs = a % b := by
    rw [← Int.natCast_emod]
    exact Int.natAbs_natCast _
  rw [e, Int.natAbs_natCast, Int.natAbs_natCast, Nat.gcd_comm b (a % b), ← Nat.gcd_rec b a, Nat.gcd_comm]
theorem cut_int {ns : List Int} {lo hi : Option Int} {i : Nat} {x : V} (h : (cutV (ns.map V.int) lo hi)[i]? = some x) : ∃ n, x = .int n := by
  have m1 := List.mem_of_getElem? h
  unfold cutV at m1
  have m2 := List.mem_of_mem_drop (List.mem_of_mem_take m1)
  obtain ⟨n, _, e⟩ := List.mem_map.mp m2
  exact ⟨n, e.symm⟩
end Qj
namespace Qj
open PySem PySem.Spec PyProof.Rows L2
/-! ### values of any kind -/
inductive Kd where
  | non | bl | int | str | tup | lst | dic
  deriving DecidableEq
def Kd.nm : Kd → String
  | .non => "NoneType" | .bl => "bool" | .int => "int" | .str => "str" | .tup => "tuple" | .lst => "list" | .dic => "dict"
def Kd.isInt : Kd → Bool
  | .int => true
  | _ => false
inductive Kn (H : Hp) : V → Kd → Prop where
  | non : Kn H .non .non
  | bl (b : Bool) : Kn H (.bl b) .bl
  | int (i : Int) : Kn H (.int i) .int
  | str (x : Str) : Kn H (.str x) .str
  | tup {a : Addr} {xs : List V} (h : H a = some (.tup xs)) : Kn H (.ref a) .tup
  | lst {a : Addr} {xs : List V} (h : H a = some (.lst xs)) : Kn H (.ref a) .lst
  | dic {a : Addr} {kvs : List (Key × V)} (h : H a = some (.dK kvs)) : Kn H (.ref a) .dic
theorem Kn.ex {H H' : Hp} {x : V} {k : Kd} (h : Kn H x k) (e : Evl.Ex H H') : Kn H' x k := by
  cases h with
  | non => exact .non
  | bl b => exact .bl b
  | int i => exact .int i
  | str x => exact .str x
  | tup h => exact .tup (e _ _ h)
  | lst h => exact .lst (e _ _ h)
  | dic h => exact .dic (e _ _ h)
theorem Kn.ty {K : PySem.W.Frag} {H : Hp} {x : V} {k : Kd} (h : Kn H x k) : TyX K H x (.type k.nm) := by
  cases h with
  | non => exact .base .non
  | bl b => exact .base (.bl b)
  | int i => exact .base (.int i)
  | str x => exact .base (.str x)
  | tup h => exact .base (.tup h)
  | lst h => exact .base (.lst h)
  | dic h => exact .base (.dK h)
theorem kd_int (K : PySem.W.Frag) (k : Kd) : PySem.W.kitOne K (.type k.nm) (.type "int") = some (k.isInt || k == .bl) := by
  cases k <;> exact kit_ty (by decide +kernel)
theorem kd_bool (K : PySem.W.Frag) (k : Kd) : PySem.W.kitOne K (.type k.nm) (.type "bool") = some (k == .bl) := by
  cases k <;> exact kit_ty (by decide +kernel)
theorem kd_tup (K : PySem.W.Frag) (k : Kd) : PySem.W.kitOne K (.type k.nm) (.type "tuple") = some (k == .tup) := by
  cases k <;> exact kit_ty (by decide +kernel)
def spWhole : Sp := fun vs H Q _ => ∃ (x : V) (k : Kd), vs = [x] ∧ Kn H x k ∧ Q (.bl k.isInt) H
/-- is_fraction's answers -/
inductive FrQ (H : Hp) : V → Bool → Prop where
  | no {x : V} {k : Kd} : Kn H x k → (k == .tup) = false → FrQ H x false
  | len {a : Addr} {xs : List V} : H a = some (.tup xs) → xs.length ≠ 2 → FrQ H (.ref a) false
  | two {a : Addr} {x y : V} {k l : Kd} : H a = some (.tup [x, y]) → Kn H x k → Kn H y l → (k.isInt && l.isInt) = false → FrQ H (.ref a) false
  | int {a : Addr} {t b : Int} : H a = some (.tup [.int t, .int b]) → FrQ H (.ref a) (decide (1 ≤ b) && decide (((Nat.gcd t.natAbs b.natAbs : Nat) : Int) = 1))
def spIsFr : Sp := fun vs H Q _ => ∃ (x : V) (b : Bool), vs = [x] ∧ FrQ H x b ∧ Q (.bl b) H
/-- fraction: E at the class C where there is none -/
def spFraction (C : Addr) : Sp := fun vs H Q E => ∃ (x y : V) (k l : Kd), vs = [x, y] ∧ Kn H x k ∧ Kn H y l ∧
  ((k.isInt && l.isInt) = false → E (.ref C) none H) ∧
  ∀ t b : Int, x = .int t → y = .int b → (b = 0 → E (.ref C) none H) ∧ (b ≠ 0 → t.natAbs < 2 ^ 8000 ∧ b.natAbs < 2 ^ 8000 ∧ ∀ p H', H p = none → Evl.Ex H H' → H' p = some (frV (fr t b)) → Q (.ref p) H')

theorem ne_of_test {i j : Int} (h : ¬ (!decide (V.int i = V.int j)) = true) : i = j := by
  by_cases e : V.int i = V.int j
  · exact V.int.inj e
  · rw [decide_eq_false e] at h
    exact absurd rfl h
theorem eq_of_test {i j : Int} (h : decide (V.int i = V.int j) = true) : i = j := V.int.inj (of_decide_eq_true h)
theorem eq_of_test' {i j : Int} (h : ¬ decide (V.int i = V.int j) = true) : i ≠ j := fun e => h (decide_eq_true (by rw [e]))
theorem dec_int {i j : Int} : decide (V.int i = V.int j) = decide (i = j) := by
  by_cases e : i = j
  · subst e
    rw [decide_eq_true rfl, decide_eq_true rfl]
  · rw [decide_eq_false e, decide_eq_false (fun z => e (V.int.inj z))]
theorem passX0 {X : Cx} : Passes (L2.CX X.prog X.w) X E0 := by
  intro pins σ H s e s' I h
  obtain ⟨a, B, H', cls, d, _, _, _, _, _, _, _, z⟩ := h
  exact z.elim
def refused : Str := "refused"
def frD (x : Int × Int) : PyData := .tuple [.int x.1, .int x.2]
theorem dp_fr {K : PySem.W.Frag} {H : Hp} {p : Addr} {x : Int × Int} (h : H p = some (frV x)) : Dp K H (.ref p) (frD x) := .tup (SqT.of h) (.cons (.int _) (.cons (.int _) .nil))
theorem okd_fr {x : Int × Int} {k : Nat} (h1 : x.1.natAbs < 2 ^ k) (h2 : x.2.natAbs < 2 ^ k) (h0 : 0 < k) (hk : k ≤ 1000) : Okd (frD x) (k + 1 + (k + 1 + 0)) (max 0 (max 0 0) + 1) := okd_tup (oka_cons (okd_int h1 h0 hk) (oka_cons (okd_int h2 h0 hk) oka_nil))
/-- what _law_made tells -/
inductive MadeQ : V → V → Kd → Kd → Str → Prop where
  | odd {x y : V} {k l : Kd} : (k.isInt && l.isInt) = false → MadeQ x y k l refused
  | zero {t : Int} : MadeQ (.int t) (.int 0) .int .int refused
  | fr {t b : Int} : b ≠ 0 → t.natAbs < 2 ^ 400 → b.natAbs < 2 ^ 400 → MadeQ (.int t) (.int b) .int .int (frD (Qj.fr t b)).shown
def spMade : Sp := fun vs H Q _ => ∃ (x y : V) (k l : Kd) (r : Str), vs = [x, y] ∧ Kn H x k ∧ Kn H y l ∧ MadeQ x y k l r ∧ ∀ H', Evl.Ex H H' → Q (.str r) H'
def spNumber : Sp := fun vs H Q _ => ∃ (D : Addr) (k : Int), vs = [.ref D, .int k] ∧ DeckAt H D ∧ 0 ≤ k ∧ k < 4 ∧ ∀ (n : Int) (H' : Hp), n.natAbs ≤ 10 ^ 18 → Bu D H H' → DeckAt H' D → Q (.int n) H'
def spOdd : Sp := fun vs H Q _ => ∃ (D : Addr) (t b : Int), vs = [.ref D, .int t, .int b] ∧ DeckAt H D ∧ ∀ (x : V) (k : Kd) (H' : Hp), Kn H' x k → k.isInt = false → Bu D H H' → DeckAt H' D → Q x H'
def spTold : Sp := fun vs H Q _ => ∃ t b : Int, vs = [.int t, .int b] ∧ t.natAbs < 2 ^ 400 ∧ b.natAbs < 2 ^ 400 ∧ ∀ H', Evl.Ex H H' → Q (.bl (decide (1 ≤ b) && decide (((Nat.gcd t.natAbs b.natAbs : Nat) : Int) = 1))) H'
theorem pow_le8000 {n k : Nat} (h : n < 2 ^ k) (hk : k ≤ 8000) : n < 2 ^ 8000 := Nat.lt_of_lt_of_le h (Nat.pow_le_pow_right (by decide) hk)
theorem cr_reprK {X : Cx} (K : PySem.W.Frag) (hK : X.K = K) (hg : X.A.guards = some []) (hu : X.A.units + 64 < cLine) : CallR X (.builtin "repr") (rRepr K) := by
  subst hK
  exact cr_repr hg hu
theorem shaped_fr (x : Int × Int) : SeqAt.shaped (frD x) = true := by
  unfold frD SeqAt.shaped
  simp [PyData.canLay0, PyData.canLayAll0, PyData.depth, PyData.depthAll]
theorem eqv_fr (x y : Int × Int) : PyData.eqv (frD x) (frD y) = decide (x.1 = y.1 ∧ x.2 = y.2) := by
  unfold frD
  simp only [PyData.eqv, PyData.eqvAll]
  by_cases h1 : x.1 = y.1
  · by_cases h2 : x.2 = y.2
    · rw [h1, h2]; simp
    · simp [h1, h2]
  · simp [h1]
theorem num_le {v L : Int} (h0 : 0 ≤ v) (h1 : v < 2 * L + 1) (hL : L ≤ 10 ^ 18) : (v - L).natAbs ≤ 10 ^ 18 := by omega
theorem OkA.mono {ds : List PyData} {n m n' m' : Nat} (h : OkA ds n m) (a : n ≤ n') (b : m ≤ m') : OkA ds n' m' := ⟨h.sh, h.nd, h.lv, Nat.le_trans h.wt a, Nat.le_trans h.dp b⟩
theorem Okd.mono {d : PyData} {n m n' m' : Nat} (h : Okd d n m) (a : n ≤ n') (b : m ≤ m') : Okd d n' m' := ⟨h.sh, h.nd, h.lv, Nat.le_trans h.wt a, Nat.le_trans h.dp b⟩
theorem dpall_rep {K : PySem.W.Frag} {H : Hp} {b : Bool} : ∀ n : Nat, DpAll K H (List.replicate n (.bl b)) (List.replicate n (.bool b))
  | 0 => .nil
  | n + 1 => .cons (.bl b) (dpall_rep n)
theorem oka_rep {b : Bool} : ∀ n : Nat, OkA (List.replicate n (.bool b)) n 0
  | 0 => oka_nil
  | n + 1 => (oka_cons okd_bl (oka_rep n)).mono (by omega) (by decide)
theorem FrQ.ex {H H' : Hp} {x : V} {b : Bool} (h : FrQ H x b) (e : Evl.Ex H H') : FrQ H' x b := by
  cases h with
  | no k hn => exact .no (k.ex e) hn
  | len a hl => exact .len (e _ _ a) hl
  | two a hx hy hb => exact .two (e _ _ a) (hx.ex e) (hy.ex e) hb
  | int a => exact .int (e _ _ a)
def spRight : Sp := fun vs H Q _ => ∃ (D : Addr) (t b : Int), vs = [.ref D, .int t, .int b] ∧ DeckAt H D ∧ t.natAbs < 2 ^ 400 ∧ b.natAbs < 2 ^ 400 ∧ ∀ H', Bu D H H' → DeckAt H' D → Q (.bl true) H'
theorem made_any {t b : Int} (ht : t.natAbs < 2 ^ 400) (hb : b.natAbs < 2 ^ 400) : b ≠ 0 → MadeQ (.int t) (.int b) .int .int (frD (Qj.fr t b)).shown := fun h => .fr h ht hb
/-! ### lowest terms -/
theorem dvd_t (t b : Int) : ((Nat.gcd t.natAbs b.natAbs : Nat) : Int) ∣ t := Int.ofNat_dvd_left.mpr (Nat.gcd_dvd_left _ _)
theorem dvd_b (t b : Int) : ((Nat.gcd t.natAbs b.natAbs : Nat) : Int) ∣ b := Int.ofNat_dvd_left.mpr (Nat.gcd_dvd_right _ _)
theorem fdiv_pos {t g : Int} (hg : 0 < g) : t.fdiv g = t / g := Int.fdiv_eq_ediv_of_nonneg t (by omega)
theorem fdiv_neg {t g : Int} (hd : g ∣ t) : t.fdiv (-g) = -1 * t / g := by
  rw [Int.fdiv_eq_ediv_of_dvd (Int.neg_dvd.mpr hd), Int.ediv_neg, Int.neg_mul, Int.one_mul, Int.neg_ediv_of_dvd hd]
theorem gcd_one (t : Int) : Nat.gcd t.natAbs (1 : Int).natAbs = 1 := Nat.gcd_one_right _
theorem fr_one (t : Int) : fr t 1 = (t, 1) := by
  unfold fr
  rw [gcd_one, if_pos (by decide)]
  show (1 * t / 1, (1 : Int) * 1 / 1) = (t, 1)
  rw [Int.one_mul, Int.ediv_one]
  rfl
/-- what is told of a pair -/
theorem told_eq {t b : Int} (hb : 0 < b) : (decide (1 ≤ b) && decide (((Nat.gcd t.natAbs b.natAbs : Nat) : Int) = 1)) = decide ((fr t b).1 = t ∧ (fr t b).2 = b) := by
  rw [decide_eq_true (show 1 ≤ b by omega), Bool.true_and]
  by_cases h : ((Nat.gcd t.natAbs b.natAbs : Nat) : Int) = 1
  · rw [decide_eq_true h, eq_comm, decide_eq_true_eq]
    unfold fr
    rw [if_pos hb, h, Int.one_mul, Int.one_mul, Int.ediv_one, Int.ediv_one]
    exact ⟨rfl, rfl⟩
  · rw [decide_eq_false h, eq_comm, decide_eq_false_iff_not]
    rintro ⟨_, h2⟩
    unfold fr at h2
    rw [if_pos hb, Int.one_mul, Int.one_mul] at h2
    dsimp only at h2
    have d := dvd_b t b
    have e := Int.ediv_mul_cancel d
    rw [h2] at e
    have e2 : b * ((Nat.gcd t.natAbs b.natAbs : Nat) : Int) = b * 1 := by rw [e, Int.mul_one]
    exact h (Int.eq_of_mul_eq_mul_left (by omega) e2)
theorem fr_lt {t b : Int} {k : Nat} (hb : b ≠ 0) (h1 : t.natAbs < 2 ^ k) (h2 : b.natAbs < 2 ^ k) : (fr t b).1.natAbs < 2 ^ k ∧ (fr t b).2.natAbs < 2 ^ k := by
  have key : ∀ x : Int, x.natAbs < 2 ^ k → ((if 0 < b then 1 else -1) * x / ((Nat.gcd t.natAbs b.natAbs : Nat) : Int)).natAbs < 2 ^ k := by
    intro x hx
    refine Nat.lt_of_le_of_lt ?_ hx
    have e : ((if 0 < b then 1 else -1) * x).natAbs = x.natAbs := by
      split
      · rw [Int.one_mul]
      · rw [Int.neg_mul, Int.one_mul, Int.natAbs_neg]
    have l := Int.natAbs_ediv_le_natAbs ((if 0 < b then 1 else -1) * x) ((Nat.gcd t.natAbs b.natAbs : Nat) : Int)
    omega
  exact ⟨key t h1, key b h2⟩
end Qj
namespace Qj
open PySem PySem.Spec PyProof.Rows L2
/-! ### the end of a law whose def is promised where no guard stands -/
section
variable {P : Program} {w : World} {K : PySem.W.Frag} {mg mb : Str → Option Value} {CX : CXT} {k : Nat} {fa a : Addr} {fd : FuncData} {x : Str} {sp : Sp} {s1 : Shared} {us : List Value} {ns : List Int}
/-- the law runs from an abstract heap in which at most the script is tracked -/
theorem lawG_core (kin : K.In s1.heap) (g0 : s1.heap.Ns mainGlobals mg) (bn : s1.heap.Ns builtinsNs mb) (bb : ∀ y : Str, y ≠ "__name__" → mb y = bootBuiltins y) (nl : s1.heap.NoLimit) (gz : s1.gens = #[])
    (at_a : s1.heap.get? a = some { cls := .type "list", data := .seq us.toArray }) (rm : Room k callerA)
    (F : ∀ base : Heap, K.In base → base.Ns mainGlobals mg → FnG P w K mg base CX k fa fd [x] sp) (bind : ∀ (s : Shared) (u : Value), BindsTo s fd ⟨[u], []⟩ [(x, u)])
    (H : Hp) (only : Only H) (hsp : sp [.ref a] H (fun v _ => v = .bl true) fun _ _ _ => False) (hok : HOk P w H s1.heap) (own : ∀ b, H b ≠ none → b = a) (outK : H a ≠ none → K.lookup a = none)
    (noX : ∀ e s2, CX [] H s1 (fun _ _ _ => False) e s2 → False) :
    codeAny (model P w) callerA (.call (.ref fa) ⟨[.ref a], []⟩) (fun r s2 => r = .ok (.ret (.bool true)) ∧ OldK s1.heap s2.heap ∧ s2.os = s1.os ∧ AllBare s2.gens) s1 := by
  have isA : ∀ {b : Addr} {u : HO}, H b = some u → b = a := fun {b u} z => own b (by rw [z]; exact fun c => by cases c)
  have untr : ∀ {b : Addr} {o : Obj} {es : Array DictEntry} {ep : Nat}, s1.heap.get? b = some o → o.data = .dict es ep → H b = none := by
    intro b o es ep z dd
    cases hb : H b with
    | none => rfl
    | some u =>
      cases isA hb
      rw [at_a] at z
      cases z
      cases (show Data.seq us.toArray _ = Data.dict es ep from dd)
  have nsT : ∀ {b : Addr} {m : Str → Option Value}, s1.heap.Ns b m → (hidT s1.heap H).Ns b m := by
    intro b m z
    obtain ⟨o, es, ep, z1, z2, z3⟩ := z
    exact ⟨o, es, ep, hidT_get z1 (untr z1 z2), z2, z3⟩
  have kinT : K.In (hidT s1.heap H) := by
    intro b o z
    refine hidT_get (kin b o z) ?_
    cases hb : H b with
    | none => rfl
    | some u =>
      cases isA hb
      rw [outK (by rw [hb]; exact fun c => by cases c)] at z
      cases z
  have md : Mod K mg (hidT s1.heap H) := by
    refine ⟨kinT, nsT g0, ⟨mb, nsT bn, bb⟩, ?_⟩
    obtain ⟨mc, c1, c2⟩ := nl
    exact ⟨mc, nsT c1, c2⟩
  have env : Env0 P w K mg (hidT s1.heap H) callerA [] s1 H := by
    refine ⟨rfl, md, fun b o z => of_hidT z, Nat.le_of_eq (hidT_size _ _), trivial, fun b hb => ?_, hok, .of_eq gz⟩
    cases (show b ∈ ([] : List Addr) from hb)
  have run := (F _ kinT (nsT g0)).go callerA [] s1 H ⟨[.ref a], []⟩ [.ref a] [.ref a] _ _ rm rfl env (bind s1 (.ref a)) (.cons rfl .nil) hsp
  refine codeAny_mono run (fun r s2 z => ?_)
  cases r with
  | error e => exact (noX e s2 z).elim
  | ok fl =>
    cases fl with
    | next => exact z.elim
    | brk => exact z.elim
    | cont => exact z.elim
    | ret u =>
      obtain ⟨v, G, os, bare, un, ok2, rv, q⟩ := z
      cases (show v = .bl true from q)
      cases (show u = Value.bool true from rv)
      refine ⟨rfl, OldK.of_keep (fun b o z => ?_), os, bare⟩
      cases hb : H b with
      | none => exact un.keep b o z hb (fun c => by cases (show b ∈ ([] : List Addr) from c)) (fun c => by cases c)
      | some u =>
        obtain c | ⟨ob, xs, c⟩ := only b
        · rw [hb] at c
          cases c
        · have c2 := un.frzs b ob _ c
          have p1 := (hok b _ c).1
          have p2 := (ok2 b _ c2).1
          rw [z] at p1
          cases p1
          exact p2
theorem lawG (kin : K.In s1.heap) (g0 : s1.heap.Ns mainGlobals mg) (bn : s1.heap.Ns builtinsNs mb) (bb : ∀ y : Str, y ≠ "__name__" → mb y = bootBuiltins y) (nl : s1.heap.NoLimit) (gz : s1.gens = #[])
    (at_a : s1.heap.get? a = some { cls := .type "list", data := .seq us.toArray }) (hints : IntsAre us ns) (hl : ns.length ≤ sizeLine) (rm : Room k callerA)
    (F : ∀ base : Heap, K.In base → base.Ns mainGlobals mg → FnG P w K mg base CX k fa fd [x] sp) (bind : ∀ (s : Shared) (u : Value), BindsTo s fd ⟨[u], []⟩ [(x, u)])
    (hsp : ∀ H : Hp, Only H → SqL K H a (ns.map V.int) → sp [.ref a] H (fun v _ => v = .bl true) fun _ _ _ => False) (noX : ∀ H e s2, CX [] H s1 (fun _ _ _ => False) e s2 → False) :
    codeAny (model P w) callerA (.call (.ref fa) ⟨[.ref a], []⟩) (fun r s2 => r = .ok (.ret (.bool true)) ∧ OldK s1.heap s2.heap ∧ s2.os = s1.os ∧ AllBare s2.gens) s1 := by
  have rel := vals_ints hints
  have lu := hints.length
  cases kl : K.lookup a with
  | some o =>
    have z := kin a o kl
    rw [at_a] at z
    cases z
    have only : Only (fun _ => none) := fun b => Or.inl rfl
    have sq : SqL K (fun _ => none) a (ns.map V.int) := Or.inr ⟨_, us.toArray, _, kl, rfl, rfl, rfl, by rw [List.size_toArray, lu]; exact hl, by simpa using rel⟩
    exact lawG_core kin g0 bn bb nl gz at_a rm F bind (fun _ => none) only (hsp _ only sq) (fun b u c => by cases c) (fun b c => absurd rfl c) (fun c => absurd rfl c) (noX _)
  | none =>
    let T : Hp := fun b => if b = a then some (.frz { cls := .type "list", data := .seq us.toArray } (.lst (ns.map V.int))) else none
    have atT : T a = some (.frz { cls := .type "list", data := .seq us.toArray } (.lst (ns.map V.int))) := if_pos rfl
    have offT : ∀ b, b ≠ a → T b = none := fun b h => if_neg h
    have only : Only T := by
      intro b
      by_cases h : b = a
      · subst h
        exact Or.inr ⟨_, _, atT⟩
      · exact Or.inl (offT b h)
    have sq : SqL K T a (ns.map V.int) := Or.inl (Or.inr ⟨_, atT⟩)
    refine lawG_core kin g0 bn bb nl gz at_a rm F bind T only (hsp _ only sq) (fun b u c => ?_) (fun b c => ?_) (fun _ => kl) (noX _)
    · by_cases h : b = a
      · subst h
        rw [atT] at c
        cases c
        exact ⟨at_a, by rw [List.length_map]; exact hl, us, _, rel, at_a⟩
      · rw [offT b h] at c
        cases c
    · by_cases h : b = a
      · exact h
      · exact absurd (offT b h) c
end
theorem walk_ofG {l : PySem.W.OpenLaw} {n k : Nat} {q : Program} {loose : List Str} {XP : (Str → Option Value) → Heap → Prop} {YP : World → Heap → Prop} {d : DefRec} {K : Params → PySem.W.Frag} {CX : CXT} {sp : PySem.W.Frag → Sp} {x : Str}
    (most : l.most = some n) (small : n ≤ sizeLine) (nodf : d.params.defaults = []) (rm : Room k callerA) (toK : ∀ (w : World) (h : Heap), YP w h → (K w.params).In h)
    (F : ∀ (w : World) (mg : Str → Option Value) (fa : Addr) (h : Heap), (K w.params).In h → h.Ns mainGlobals mg → mg d.name = some (.ref fa) →
      ∃ fd : FuncData, (∀ (s : Shared) (u : Value), BindsTo s fd ⟨[u], []⟩ [(x, u)]) ∧ ∀ base : Heap, (K w.params).In base → base.Ns mainGlobals mg → FnG l.prog w (K w.params) mg base CX k fa fd [x] (sp (K w.params)))
    (hsp : ∀ (K : PySem.W.Frag) (H : Hp) (a : Addr) (ns : List Int), ns.length ≤ n → Only H → SqL K H a (ns.map V.int) → sp K [.ref a] H (fun v _ => v = .bl true) fun _ _ _ => False)
    (noX : ∀ (H : Hp) (s : Shared) (e : Value) (s2 : Shared), CX [] H s (fun _ _ _ => False) e s2 → False) : PySem.W.WalkO q loose XP YP l.row.toRowW d [] (fun f vs => PySem.call f vs) := by
  refine Att.attach_call most nodf ?_
  intro w s0 s1 mg mb fa o pm cd doc a us ns G Y ho hd hcd hmg hobj hi2 hlen gz
  obtain ⟨fd, bind, hF⟩ := F w mg fa _ (toK w _ Y) G.T.g hmg
  exact lawG (toK w _ Y) G.T.g G.T.b G.T.builtins G.T.nolimit gz hobj hi2 (Nat.le_trans hlen small) rm hF bind (fun H h1 h2 => hsp _ H a ns hlen h1 h2) (fun H e s2 => noX H s1 e s2)
end Qj
namespace Qj
open PySem PySem.Spec PyProof.Rows L2
/-! ### sums, differences, products of pairs -/
def pl (x y : Int × Int) : Int × Int := fr (x.1 * y.2 + y.1 * x.2) (x.2 * y.2)
def mi (x y : Int × Int) : Int × Int := fr (x.1 * y.2 - y.1 * x.2) (x.2 * y.2)
def ti (x y : Int × Int) : Int × Int := fr (x.1 * y.1) (x.2 * y.2)
def ov (x y : Int × Int) : Int × Int := fr (x.1 * y.2) (x.2 * y.1)
/-- small: both parts below 2 ^ k, the bottom above nought -/
structure Sm (k : Nat) (x : Int × Int) : Prop where
  t : x.1.natAbs < 2 ^ k
  b : x.2.natAbs < 2 ^ k
  p : 0 < x.2
theorem Sm.mono {j k : Nat} {x : Int × Int} (h : Sm j x) (hk : j ≤ k) : Sm k x := ⟨Nat.lt_of_lt_of_le h.t (Nat.pow_le_pow_right (by decide) hk), Nat.lt_of_lt_of_le h.b (Nat.pow_le_pow_right (by decide) hk), h.p⟩
theorem fr_pos {t b : Int} (hb : b ≠ 0) : 0 < (fr t b).2 := by
  unfold fr
  dsimp only
  have g := gcd_pos t hb
  have d := dvd_b t b
  split
  · rename_i h
    rw [Int.one_mul]
    exact Int.ediv_pos_of_pos_of_dvd h (by omega) d
  · rename_i h
    rw [Int.neg_mul, Int.one_mul]
    exact Int.ediv_pos_of_pos_of_dvd (by omega) (by omega) (Int.dvd_neg.mpr d)
theorem sm_fr {t b : Int} {k : Nat} (hb : b ≠ 0) (h1 : t.natAbs < 2 ^ k) (h2 : b.natAbs < 2 ^ k) : Sm k (fr t b) := ⟨(fr_lt hb h1 h2).1, (fr_lt hb h1 h2).2, fr_pos hb⟩
theorem mul_lt {i j : Int} {a b : Nat} (ha : i.natAbs < 2 ^ a) (hb : j.natAbs < 2 ^ b) : (i * j).natAbs < 2 ^ (a + b) := wide_lt ha hb
theorem mul_lt' {i j : Int} {a b : Nat} (ha : i.natAbs < 2 ^ a) (hb : j.natAbs < 2 ^ b) : (j * i).natAbs < 2 ^ (a + b) := by
  rw [Int.mul_comm]
  exact wide_lt ha hb
theorem add_lt {i j : Int} {a : Nat} (ha : i.natAbs < 2 ^ a) (hb : j.natAbs < 2 ^ a) : (i + j).natAbs < 2 ^ (a + 1) := by
  rw [Nat.pow_succ]
  omega
theorem sub_lt {i j : Int} {a : Nat} (ha : i.natAbs < 2 ^ a) (hb : j.natAbs < 2 ^ a) : (i - j).natAbs < 2 ^ (a + 1) := by
  rw [Nat.pow_succ]
  omega
theorem pow_up {n a b : Nat} (h : n < 2 ^ a) (hk : a ≤ b) : n < 2 ^ b := Nat.lt_of_lt_of_le h (Nat.pow_le_pow_right (by decide) hk)
section
variable {j k : Nat} {x y : Int × Int}
theorem bot_ne (h : Sm k x) (g : Sm j y) : x.2 * y.2 ≠ 0 := Int.ne_of_gt (Int.mul_pos h.p g.p)
theorem pl_t (h : Sm k x) (g : Sm j y) : (x.1 * y.2 + y.1 * x.2).natAbs < 2 ^ (k + j + 1) := add_lt (mul_lt h.t g.b) (mul_lt' h.b g.t)
theorem mi_t (h : Sm k x) (g : Sm j y) : (x.1 * y.2 - y.1 * x.2).natAbs < 2 ^ (k + j + 1) := sub_lt (mul_lt h.t g.b) (mul_lt' h.b g.t)
theorem pr_t (h : Sm k x) (g : Sm j y) : (x.1 * y.1).natAbs < 2 ^ (k + j + 1) := pow_up (mul_lt h.t g.t) (by omega)
theorem pr_b (h : Sm k x) (g : Sm j y) : (x.2 * y.2).natAbs < 2 ^ (k + j + 1) := pow_up (mul_lt h.b g.b) (by omega)
theorem sm_pl (h : Sm k x) (g : Sm j y) : Sm (k + j + 1) (pl x y) := sm_fr (bot_ne h g) (pl_t h g) (pr_b h g)
theorem sm_mi (h : Sm k x) (g : Sm j y) : Sm (k + j + 1) (mi x y) := sm_fr (bot_ne h g) (mi_t h g) (pr_b h g)
theorem sm_ti (h : Sm k x) (g : Sm j y) : Sm (k + j + 1) (ti x y) := sm_fr (bot_ne h g) (pr_t h g) (pr_b h g)
theorem ov_ne (h : Sm k x) (z : y.1 ≠ 0) : x.2 * y.1 ≠ 0 := Int.mul_ne_zero (Int.ne_of_gt h.p) z
theorem sm_ov (h : Sm k x) (g : Sm j y) (z : y.1 ≠ 0) : Sm (k + j + 1) (ov x y) := sm_fr (ov_ne h z) (pow_up (mul_lt h.t g.b) (by omega)) (pow_up (mul_lt h.b g.t) (by omega))
end
/-- the sign does not matter -/
theorem fr_neg {t b : Int} (hb : b ≠ 0) : fr (t * -1) (b * -1) = fr t b := by
  unfold fr
  have e : ∀ x : Int, (x * -1).natAbs = x.natAbs := fun x => by rw [Int.mul_neg, Int.mul_one, Int.natAbs_neg]
  rw [e, e]
  by_cases h : 0 < b
  · rw [if_pos h, if_neg (by omega)]
    have e2 : ∀ x : Int, -1 * (x * -1) = 1 * x := fun x => by omega
    rw [e2, e2]
  · rw [if_neg h, if_pos (by omega)]
    have e2 : ∀ x : Int, 1 * (x * -1) = -1 * x := fun x => by omega
    rw [e2, e2]
/-- over is times the turned one -/
theorem ov_ti {x y : Int × Int} {k : Nat} (h : Sm k x) (z : y.1 ≠ 0) (c : Nat.gcd y.1.natAbs y.2.natAbs = 1) : ti x (fr y.2 y.1) = ov x y := by
  have g : Nat.gcd y.2.natAbs y.1.natAbs = 1 := by rw [Nat.gcd_comm]; exact c
  unfold ti ov
  by_cases s : 0 < y.1
  · have e : fr y.2 y.1 = (y.2, y.1) := by
      unfold fr
      rw [g, if_pos s]
      show (1 * y.2 / 1, 1 * y.1 / 1) = (y.2, y.1)
      rw [Int.one_mul, Int.one_mul, Int.ediv_one, Int.ediv_one]
    rw [e]
  · have e : fr y.2 y.1 = (y.2 * -1, y.1 * -1) := by
      unfold fr
      rw [g, if_neg s]
      show (-1 * y.2 / 1, -1 * y.1 / 1) = (y.2 * -1, y.1 * -1)
      rw [Int.ediv_one, Int.ediv_one, Int.mul_comm, Int.mul_comm (-1) y.1]
    rw [e]
    show fr (x.1 * (y.2 * -1)) (x.2 * (y.1 * -1)) = fr (x.1 * y.2) (x.2 * y.1)
    rw [← Int.mul_assoc, ← Int.mul_assoc, fr_neg (ov_ne h z)]
/-- fr is in lowest terms -/
theorem fr_gcd {t b : Int} (hb : b ≠ 0) : Nat.gcd (fr t b).1.natAbs (fr t b).2.natAbs = 1 := by
  have g := gcd_pos t hb
  have key : ∀ x : Int, ((Nat.gcd t.natAbs b.natAbs : Nat) : Int) ∣ x → ((if 0 < b then 1 else -1) * x / ((Nat.gcd t.natAbs b.natAbs : Nat) : Int)).natAbs = x.natAbs / Nat.gcd t.natAbs b.natAbs := by
    intro x d
    have d2 : ((Nat.gcd t.natAbs b.natAbs : Nat) : Int) ∣ (if 0 < b then 1 else -1) * x := Int.dvd_mul_of_dvd_right d
    rw [Int.natAbs_ediv_of_dvd d2, Int.natAbs_natCast, Int.natAbs_mul]
    have e : (if 0 < b then 1 else -1 : Int).natAbs = 1 := by split <;> rfl
    rw [e, Nat.one_mul]
  unfold fr
  dsimp only
  rw [key t (dvd_t t b), key b (dvd_b t b)]
  rw [Nat.gcd_div (Nat.gcd_dvd_left _ _) (Nat.gcd_dvd_right _ _), Nat.div_self g]
/-- compare, the law's and the program's -/
def cmpV (x y : Int × Int) : Int := if x.1 * y.2 < y.1 * x.2 then -1 else if y.1 * x.2 < x.1 * y.2 then 1 else 0
theorem cmp_eq (x y : Int × Int) : (if decide (0 < x.1 * y.2 - y.1 * x.2) then (1 : Int) else 0) - (if decide (x.1 * y.2 - y.1 * x.2 < 0) then (1 : Int) else 0) = cmpV x y := by
  unfold cmpV
  by_cases h1 : x.1 * y.2 < y.1 * x.2
  · rw [if_pos h1, decide_eq_true (show x.1 * y.2 - y.1 * x.2 < 0 by omega), decide_eq_false (show ¬ 0 < x.1 * y.2 - y.1 * x.2 by omega)]
    rfl
  · by_cases h2 : y.1 * x.2 < x.1 * y.2
    · rw [if_neg h1, if_pos h2, decide_eq_true (show 0 < x.1 * y.2 - y.1 * x.2 by omega), decide_eq_false (show ¬ x.1 * y.2 - y.1 * x.2 < 0 by omega)]
      rfl
    · rw [if_neg h1, if_neg h2, decide_eq_false (show ¬ 0 < x.1 * y.2 - y.1 * x.2 by omega), decide_eq_false (show ¬ x.1 * y.2 - y.1 * x.2 < 0 by omega)]
      rfl
/-! ### promises -/
def spBin (op : Int × Int → Int × Int → Int × Int) : Sp := fun vs H Q _ => ∃ (p q : Addr) (x y : Int × Int) (k : Nat), vs = [.ref p, .ref q] ∧ H p = some (frV x) ∧ H q = some (frV y) ∧ Sm k x ∧ Sm 62 y ∧ k ≤ 700 ∧ ∀ r H', H r = none → Evl.Ex H H' → H' r = some (frV (op x y)) → Q (.ref r) H'
def spOver (C : Addr) : Sp := fun vs H Q E => ∃ (p q : Addr) (x y : Int × Int), vs = [.ref p, .ref q] ∧ H p = some (frV x) ∧ H q = some (frV y) ∧ Sm 62 x ∧ Sm 62 y ∧ (y.1 = 0 → E (.ref C) none H) ∧ (y.1 ≠ 0 → ∀ r H', H r = none → Evl.Ex H H' → H' r = some (frV (ov x y)) → Q (.ref r) H')
def spCmp : Sp := fun vs H Q _ => ∃ (p q : Addr) (x y : Int × Int), vs = [.ref p, .ref q] ∧ H p = some (frV x) ∧ H q = some (frV y) ∧ Sm 62 x ∧ Sm 62 y ∧ Q (.int (cmpV x y)) H
def spFloor : Sp := fun vs H Q _ => ∃ (p : Addr) (x : Int × Int), vs = [.ref p] ∧ H p = some (frV x) ∧ Sm 62 x ∧ Q (.int (x.1 / x.2)) H
def spPart : Sp := fun vs H Q _ => ∃ (p : Addr) (x : Int × Int), vs = [.ref p] ∧ H p = some (frV x) ∧ Sm 62 x ∧ ∀ r H', H r = none → Evl.Ex H H' → H' r = some (frV (x.1 % x.2, x.2)) → Q (.ref r) H'
/-- many pairs, one behind another -/
inductive FrL (H : Hp) : List V → List (Int × Int) → Prop where
  | nil : FrL H [] []
  | cons {p : Addr} {x : Int × Int} {vs : List V} {xs : List (Int × Int)} : H p = some (frV x) → Sm 62 x → FrL H vs xs → FrL H (.ref p :: vs) (x :: xs)
theorem FrL.ex {H H' : Hp} (e : Evl.Ex H H') : ∀ {vs : List V} {xs : List (Int × Int)}, FrL H vs xs → FrL H' vs xs
  | _, _, .nil => .nil
  | _, _, .cons h s t => .cons (e _ _ h) s (t.ex e)
theorem FrL.len {H : Hp} : ∀ {vs : List V} {xs : List (Int × Int)}, FrL H vs xs → vs.length = xs.length
  | _, _, .nil => rfl
  | _, _, .cons _ _ t => congrArg Nat.succ t.len
theorem FrL.at {H : Hp} : ∀ {vs : List V} {xs : List (Int × Int)} {i : Nat} {v : V}, FrL H vs xs → vs[i]? = some v → ∃ p x, v = .ref p ∧ xs[i]? = some x ∧ H p = some (frV x) ∧ Sm 62 x
  | _, _, _, _, .nil, h => by simp at h
  | _, _, 0, _, .cons h s _, e => by
    simp at e
    subst e
    exact ⟨_, _, rfl, rfl, h, s⟩
  | _, _, i + 1, _, .cons _ _ t, e => by
    simp at e
    obtain ⟨p, x, a, b, c, d⟩ := t.at e
    exact ⟨p, x, a, by simpa using b, c, d⟩
theorem FrL.app {H : Hp} {vs ws : List V} {xs ys : List (Int × Int)} (h : FrL H vs xs) (g : FrL H ws ys) : FrL H (vs ++ ws) (xs ++ ys) := by
  induction h with
  | nil => exact g
  | cons a b _ ih => exact .cons a b ih
theorem FrL.take {H : Hp} : ∀ {vs : List V} {xs : List (Int × Int)} (n : Nat), FrL H vs xs → FrL H (vs.take n) (xs.take n)
  | _, _, 0, _ => .nil
  | _, _, _ + 1, .nil => .nil
  | _, _, n + 1, .cons h s t => .cons h s (t.take n)
theorem FrL.drop {H : Hp} : ∀ {vs : List V} {xs : List (Int × Int)} (n : Nat), FrL H vs xs → FrL H (vs.drop n) (xs.drop n)
  | _, _, 0, h => h
  | _, _, _ + 1, .nil => .nil
  | _, _, n + 1, .cons _ _ t => t.drop n
def tot (xs : List (Int × Int)) : Int × Int := xs.foldl pl (0, 1)
theorem tot_step {xs : List (Int × Int)} {i : Nat} {x : Int × Int} (h : xs[i]? = some x) : tot (xs.take (i + 1)) = pl (tot (xs.take i)) x := by
  unfold tot
  rw [List.take_add_one, h, List.foldl_append]
  rfl
theorem sm_tot : ∀ (xs : List (Int × Int)), (∀ x ∈ xs, Sm 62 x) → Sm (1 + 63 * xs.length) (tot xs) := by
  have key : ∀ (xs : List (Int × Int)) (a : Int × Int) (k : Nat), Sm k a → (∀ x ∈ xs, Sm 62 x) → Sm (k + 63 * xs.length) (xs.foldl pl a) := by
    intro xs
    induction xs with
    | nil => intro a k h _; exact h
    | cons x r ih =>
      intro a k h g
      have s := ih (pl a x) (k + 62 + 1) (sm_pl h (g x (List.mem_cons_self ..))) (fun y hy => g y (List.mem_cons_of_mem _ hy))
      rw [List.length_cons]
      exact s.mono (by omega)
  exact fun xs h => key xs (0, 1) 1 ⟨by decide, by decide, by decide⟩ h
theorem FrL.sm {H : Hp} : ∀ {vs : List V} {xs : List (Int × Int)}, FrL H vs xs → ∀ x ∈ xs, Sm 62 x
  | _, _, .nil, _, h => by cases h
  | _, _, .cons _ s t, x, h => by
    rcases List.mem_cons.mp h with e | e
    · rw [e]; exact s
    · exact t.sm x e
def spTotal : Sp := fun vs H Q _ => ∃ xs : List (Int × Int), FrL H vs xs ∧ xs.length ≤ 10 ∧ ∀ r H', H r = none → Evl.Ex H H' → H' r = some (frV (tot xs)) → Q (.ref r) H'
section
variable {X : Cx} {CX : CXT} {k : Nat} {f : Addr} {sp : Sp} {E : XK} {x : Str} {p pos : Pos} {e : Expr} {es : List Expr} {t : TA}
theorem run_r {pins : List (Addr × Obj)} {σ : L2.St} {H : Hp} {s : Shared} {Q : VK} {us : List Value} {as : List V} (F : FnR X.prog X.w X.K X.mg X.base CX k f sp) (rm : Room k X.A)
    (hx : Passes CX X E) (I : Inv X pins σ H s) (r : Vals as us) (h : sp as H Q E) : wpAny (model X.prog X.w) X.A (call (.ref f) us) (EP X pins σ Q) X.xe s := by
  have c := F X.A X.stack s H us as Q E rm I.env0 r h
  refine wpAny_call (codeAny_mono c (fun r2 s2 hq => ?_))
  cases r2 with
  | error e2 => exact hx pins σ H s e2 s2 I hq
  | ok fl =>
    cases fl with
    | ret u => exact I.after hq
    | next => exact hq.elim
    | brk => exact hq.elim
    | cont => exact hq.elim
theorem pe_callR (F : FnR X.prog X.w X.K X.mg X.base CX k f sp) (rm : Room k X.A) (hg : Gl X x) (hm : X.mg x = some (.ref f)) (kp : PySem.W.keepIn X.K (.ref f) = true) (hx : Passes CX X E)
    (ha : PA X (e :: es) t) (h1 : (x == ("__debug__" : Str)) = false := by decide) (h2 : starEach (e :: es) X.env = (false, eval e X.env) :: starEach es X.env := by rfl) (h3 : (backTo pos (starEach es X.env)).any (·.1) = false := by rfl) :
    PE X (.Call (.Name x p) (e :: es) [] pos) (tCall sp [] E t) := by
  constructor
  intro pins s σ H Q I h
  refine wpAny_Call_Name_kw (ld_glob I hg hm ?_ h1)
  exact PySem.W.callWith_K (h₀ := X.base) I.ok.mod.kin kp (thn (ha.run pos pins s σ H _ I h) (fun us s1 z => by
    obtain ⟨vs, H1, I1, r, q⟩ := z
    rw [List.append_nil] at q
    exact ⟨I1.kIn, run_r F rm hx I1 r q⟩)) h2 h3
theorem pe_callR0 (F : FnR X.prog X.w X.K X.mg X.base CX k f sp) (rm : Room k X.A) (hg : Gl X x) (hm : X.mg x = some (.ref f)) (kp : PySem.W.keepIn X.K (.ref f) = true) (hx : Passes CX X E)
    (h1 : (x == ("__debug__" : Str)) = false := by decide) : PE X (.Call (.Name x p) [] [] pos) (tCall sp [] E tNil) := by
  constructor
  intro pins s σ H Q I h
  refine wpAny_Call_Name_kw (ld_glob I hg hm ?_ h1)
  exact PySem.W.callWith_K0 I.kIn kp (run_r (us := []) F rm hx I .nil h)
end
end Qj
namespace K2
open PySem PySem.Spec PyProof.Rows L2 Qj
def topS (i : Nat) : Stmt := PySem.Challenge.pw_offscale_k02_sums_and_order.main.body.getD i (.Pass ⟨0, 0, 0, 0⟩)
abbrev s__lowest : Stmt := topS 5
theorem sc__lowest : FnScope ["top", "bottom", "divisor"] ["top", "bottom"] (defScope s__lowest) := ⟨rfl, rfl, rfl, by decide +kernel, rfl, by decide +kernel, by decide +kernel⟩
abbrev s_plus : Stmt := topS 6
theorem sc_plus : FnScope ["one", "other"] ["one", "other"] (defScope s_plus) := ⟨rfl, rfl, rfl, by decide +kernel, rfl, by decide +kernel, by decide +kernel⟩
abbrev s_minus : Stmt := topS 7
theorem sc_minus : FnScope ["one", "other"] ["one", "other"] (defScope s_minus) := ⟨rfl, rfl, rfl, by decide +kernel, rfl, by decide +kernel, by decide +kernel⟩
abbrev s_times : Stmt := topS 8
theorem sc_times : FnScope ["one", "other"] ["one", "other"] (defScope s_times) := ⟨rfl, rfl, rfl, by decide +kernel, rfl, by decide +kernel, by decide +kernel⟩
abbrev s_over : Stmt := topS 9
theorem sc_over : FnScope ["one", "other"] ["one", "other"] (defScope s_over) := ⟨rfl, rfl, rfl, by decide +kernel, rfl, by decide +kernel, by decide +kernel⟩
abbrev s_compare : Stmt := topS 10
theorem sc_compare : FnScope ["one", "other", "left", "right"] ["one", "other"] (defScope s_compare) := ⟨rfl, rfl, rfl, by decide +kernel, rfl, by decide +kernel, by decide +kernel⟩
abbrev s_floor_of : Stmt := topS 11
theorem sc_floor_of : FnScope ["one"] ["one"] (defScope s_floor_of) := ⟨rfl, rfl, rfl, by decide +kernel, rfl, by decide +kernel, by decide +kernel⟩
abbrev s_part_of : Stmt := topS 12
theorem sc_part_of : FnScope ["one", "top", "bottom"] ["one"] (defScope s_part_of) := ⟨rfl, rfl, rfl, by decide +kernel, rfl, by decide +kernel, by decide +kernel⟩
abbrev s_total : Stmt := topS 13
theorem sc_total : FnScope ["some", "result", "one"] ["some"] (defScope s_total) := ⟨rfl, rfl, rfl, by decide +kernel, rfl, by decide +kernel, by decide +kernel⟩
abbrev s__law_deck : Stmt := topS 15
theorem sc__law_deck : FnScope ["_law_script", "_law_great", "_law_small", "_law_cell"] ["_law_script"] (defScope s__law_deck) := ⟨rfl, rfl, rfl, by decide +kernel, rfl, by decide +kernel, by decide +kernel⟩
abbrev s__law_take : Stmt := topS 16
theorem sc__law_take : FnScope ["_law_deck_here", "_law_limit", "_law_digit", "_law_mixed"] ["_law_deck_here", "_law_limit"] (defScope s__law_take) := ⟨rfl, rfl, rfl, by decide +kernel, rfl, by decide +kernel, by decide +kernel⟩
abbrev s__law_frac : Stmt := topS 17
theorem sc__law_frac : FnScope ["_law_top", "_law_bottom", "_law_one", "_law_other", "_law_sign"] ["_law_top", "_law_bottom"] (defScope s__law_frac) := ⟨rfl, rfl, rfl, by decide +kernel, rfl, by decide +kernel, by decide +kernel⟩
abbrev s__law_plus : Stmt := topS 18
theorem sc__law_plus : FnScope ["_law_one", "_law_other"] ["_law_one", "_law_other"] (defScope s__law_plus) := ⟨rfl, rfl, rfl, by decide +kernel, rfl, by decide +kernel, by decide +kernel⟩
abbrev s__law_minus : Stmt := topS 19
theorem sc__law_minus : FnScope ["_law_one", "_law_other"] ["_law_one", "_law_other"] (defScope s__law_minus) := ⟨rfl, rfl, rfl, by decide +kernel, rfl, by decide +kernel, by decide +kernel⟩
abbrev s__law_times : Stmt := topS 20
theorem sc__law_times : FnScope ["_law_one", "_law_other"] ["_law_one", "_law_other"] (defScope s__law_times) := ⟨rfl, rfl, rfl, by decide +kernel, rfl, by decide +kernel, by decide +kernel⟩
abbrev s__law_part : Stmt := topS 21
theorem sc__law_part : FnScope ["_law_one"] ["_law_one"] (defScope s__law_part) := ⟨rfl, rfl, rfl, by decide +kernel, rfl, by decide +kernel, by decide +kernel⟩
abbrev s__law_number : Stmt := topS 22
theorem sc__law_number : FnScope ["_law_deck_here", "_law_kind", "_law_limit"] ["_law_deck_here", "_law_kind"] (defScope s__law_number) := ⟨rfl, rfl, rfl, by decide +kernel, rfl, by decide +kernel, by decide +kernel⟩
abbrev s__law_fraction : Stmt := topS 23
theorem sc__law_fraction : FnScope ["_law_deck_here", "_law_kind"] ["_law_deck_here"] (defScope s__law_fraction) := ⟨rfl, rfl, rfl, by decide +kernel, rfl, by decide +kernel, by decide +kernel⟩
abbrev s__law_over : Stmt := topS 24
theorem sc__law_over : FnScope ["_law_one", "_law_other", "_law_found"] ["_law_one", "_law_other"] (defScope s__law_over) := ⟨rfl, rfl, rfl, by decide +kernel, rfl, by decide +kernel, by decide +kernel⟩
abbrev s__law_right : Stmt := topS 25
theorem sc__law_right : FnScope ["_law_one", "_law_other", "_law_told", "_law_gap", "_law_due"] ["_law_one", "_law_other"] (defScope s__law_right) := ⟨rfl, rfl, rfl, by decide +kernel, rfl, by decide +kernel, by decide +kernel⟩
abbrev s__law_total_right : Stmt := topS 26
theorem sc__law_total_right : FnScope ["_law_some", "_law_due", "_law_one", "_law_found"] ["_law_some"] (defScope s__law_total_right) := ⟨rfl, rfl, rfl, by decide +kernel, rfl, by decide +kernel, by decide +kernel⟩
abbrev s_law : Stmt := topS 27
theorem sc_law : FnScope ["_law_script", "_law_deck_here", "_law_some", "_law_turn", "_law_one", "_law_other", "_law_kind"] ["_law_script"] (defScope s_law) := ⟨rfl, rfl, rfl, by decide +kernel, rfl, by decide +kernel, by decide +kernel⟩
/-- what the top has written -/
structure Txt (K : PySem.W.Frag) (mg : Str → Option Value) where
  _lowest : Def K mg "_lowest" s__lowest ["top", "bottom"]
  plus : Def K mg "plus" s_plus ["one", "other"]
  minus : Def K mg "minus" s_minus ["one", "other"]
  times : Def K mg "times" s_times ["one", "other"]
  over : Def K mg "over" s_over ["one", "other"]
  compare : Def K mg "compare" s_compare ["one", "other"]
  floor_of : Def K mg "floor_of" s_floor_of ["one"]
  part_of : Def K mg "part_of" s_part_of ["one"]
  _law_deck : Def K mg "_law_deck" s__law_deck ["_law_script"]
  _law_take : Def K mg "_law_take" s__law_take ["_law_deck_here", "_law_limit"]
  _law_frac : Def K mg "_law_frac" s__law_frac ["_law_top", "_law_bottom"]
  _law_plus : Def K mg "_law_plus" s__law_plus ["_law_one", "_law_other"]
  _law_minus : Def K mg "_law_minus" s__law_minus ["_law_one", "_law_other"]
  _law_times : Def K mg "_law_times" s__law_times ["_law_one", "_law_other"]
  _law_part : Def K mg "_law_part" s__law_part ["_law_one"]
  _law_number : Def K mg "_law_number" s__law_number ["_law_deck_here", "_law_kind"]
  _law_fraction : Def K mg "_law_fraction" s__law_fraction ["_law_deck_here"]
  _law_over : Def K mg "_law_over" s__law_over ["_law_one", "_law_other"]
  _law_right : Def K mg "_law_right" s__law_right ["_law_one", "_law_other"]
  _law_total_right : Def K mg "_law_total_right" s__law_total_right ["_law_some"]
  law : Def K mg "law" s_law ["_law_script"]
  m_abs : mg "abs" = none
  m_int : mg "int" = none
  m_len : mg "len" = none
  m_range : mg "range" = none
  m_repr : mg "repr" = none
  g_gcd : mg "gcd" = some (.builtin "math.gcd")
  tF : Addr
  tX : ∃ (oc : Value) (od : Option Addr) (kV doc pm : Value) (an : Option Addr) (cdv ct : Value) (osl : Array (Option Value)), K.lookup tF = some ⟨oc, od, .func (PySem.W.fnOf "total" "total" (defArgs s_total) (defBody s_total) (defScope s_total) .none kV doc pm an cdv ct), osl⟩ ∧ PySem.W.codeIn K cdv "total" = true
  tG : mg "total" = some (.ref tF)
  tK : PySem.W.keepIn K (.ref tF) = true
  C : Addr
  gC : mg "NoFraction" = some (.ref C)
  kC : PySem.W.keepIn K (.ref C) = true
  xC : PySem.W.excIn K C [.type "ValueError", .type "Exception", .type "BaseException", .type "object"] "ValueError.__new__" = true
  bC : PySem.W.subIn K (.ref C) (.type "BaseException") = some true
  tC : PySem.W.typeIn K (.ref C) = some (.type "type")
  eC : PySem.W.exmOne K (.ref C) (.ref C) = some true
end K2
namespace K2
open PySem PySem.Spec PyProof.Rows L2 Qj
local macro_rules | `(tactic| walk_at "go") => `(tactic| repeat (first
  | (refine ⟨_, rfl, ?_⟩)
  | (refine ⟨_, _, rfl, rfl, ?_⟩)
  | (refine ⟨_, _, rfl, ?_⟩)
  | (refine ⟨_, _, _, _, rfl, rfl, SqL.of (by assumption), rfl, ?_⟩)
  | (refine ⟨_, _, _, _, rfl, rfl, SqL.of upd_same, rfl, ?_⟩)
  | (refine ⟨_, _, _, _, rfl, rfl, SqT.of (by assumption), rfl, ?_⟩)
  | (refine ⟨_, _, _, _, rfl, rfl, SqT.of upd_same, rfl, ?_⟩)
  | (refine ⟨_, _, _, _, rfl, rfl, (by assumption), rfl, ?_⟩)
  | (refine ⟨_, _, _, _, rfl, rfl, upd_same, rfl, ?_⟩)
  | (refine ⟨_, _, rfl, Or.inl (by assumption), ?_⟩)
  | (refine ⟨_, _, rfl, Or.inr (SqT.of (by assumption)), ?_⟩)
  | (refine ⟨_, _, rfl, Or.inr (SqT.of upd_same), ?_⟩)
  | (refine ⟨_, _, rfl, Or.inl (SqL.of (by assumption)), ?_⟩)
  | (refine ⟨_, _, rfl, SqT.of (by assumption), rfl, ?_⟩)
  | (refine ⟨_, _, rfl, Kn.int _, ?_⟩)
  | (refine ⟨_, _, rfl, (by assumption : Kn _ _ _), ?_⟩)
  | (refine iteNS rfl ?_)
  | (refine iteF ?_)
  | (refine iteT ?_)
  | (refine Or.inl ⟨_, rfl, ?_⟩)
  | (refine Or.inr ⟨_, rfl, ?_⟩)
  | (refine And.intro sz4 ?_)
  | (refine And.intro (by first | exact rfl | assumption | decide | (show (0 : Int) < _; decide) | exact wide_div (b := 63) (by assumption) (by omega) (by decide) (by decide) | exact wide_div (b := 63) (by decide) (by decide) (by decide) (by decide) | exact Or.inl ⟨by decide, by decide⟩ | exact Or.inr ⟨by decide, by decide⟩ | exact ⟨by decide, by decide, by decide⟩ | exact Or.inl ⟨by omega, by omega⟩ | exact Or.inr ⟨by omega, by omega⟩) ?_)))
section
variable {P : Program} {w : World} {K : PySem.W.Frag} {mg : Str → Option Value} {base : Heap}
theorem ok__law_take (T : Txt K mg) : FnOk P w K mg base CX0 1 T._law_take.f T._law_take.fd ["_law_deck_here", "_law_limit"] spTake := by
  refine T._law_take.F.ok sc__law_take (fun vs H Q E h => ?_) (fun cdv A outer s H vs Q E hr h => ?_)
  · obtain ⟨D, lim, rfl, _⟩ := h
    rfl
  obtain ⟨D, lim, rfl, ⟨g, m, c, hD, hm1, hm2⟩, hl, hl2, q⟩ := h
  have nd := sc__law_take.nd
  refine ⟨_, (pss_cons (ps_if (pt_cmpR op_gt (pe_ix ix_list (pv 0) pe_int (fun _ _ => rfl)) pe_int (nomark _))
        (pss_cons (ps_set (i := 2) nd rfl (.inl rfl) (pe_op op_mod (pe_callTy call_int1 (by rfl) T.m_int boot_int (pa_cons (pe_ix ix_list (pv 0) pe_int (fun _ _ => rfl)) pa_nil)) (pv 1)))
        (pss_cons (ps_asg (pe_op op_fdivW (pe_ix ix_list (pv 0) pe_int (fun _ _ => rfl)) (pv 1)) (pg_sub (pv 0) pe_int set_list))
        (pss_one (ps_ret (pv 2)))))
        pss_nil)
      (pss_cons (ps_asg (pe_op op_add (pe_ix ix_list (pv 0) pe_int (fun _ _ => rfl)) pe_int) (pg_sub (pv 0) pe_int set_list))
      (pss_cons (ps_set (i := 3) nd rfl (.inl rfl) (pe_op op_add (pe_op op_mul (pe_ix ix_list (pv 0) pe_int (fun _ _ => rfl)) pe_int) (pe_op op_mul pe_int (pe_ix ix_list (pv 0) pe_int (fun _ _ => rfl)))))
      (pss_cons (ps_asg (pe_op op_mod (pe_callTy call_int1 (by rfl) T.m_int boot_int (pa_cons (pv 3) pa_nil)) pe_int) (pg_sub (pv 0) pe_int set_list))
      (pss_one (ps_ret (pe_op op_mod (pe_op op_fdivW (pe_op op_mod (pe_callTy call_int1 (by rfl) T.m_int boot_int (pa_cons (pe_op op_mul (pe_ix ix_list (pv 0) pe_int (fun _ _ => rfl)) (pe_ix ix_list (pv 0) pe_int (fun _ _ => rfl))) pa_nil)) pe_int) pe_int) (pv 1)))))))), ?_⟩
  walk_at "go"
  refine ite2 (fun hg => ?_) (fun hg => ?_)
  · walk_at "go"
    exact q _ _ (Int.emod_nonneg _ (by omega)) (Int.emod_lt_of_pos _ hl) Bu.upd ⟨_, _, _, upd_same, hm1, hm2⟩
  · walk_at "go"
    have b0 := Int.emod_nonneg (m * 2862933555777941757 + 3037000493 * (c + 1)) (b := 2305843009213693951) (by decide)
    have b1 := Int.emod_lt_of_pos (m * 2862933555777941757 + 3037000493 * (c + 1)) (b := 2305843009213693951) (by decide)
    exact q _ _ (Int.emod_nonneg _ (by omega)) (Int.emod_lt_of_pos _ hl) (Bu.upd.trans Bu.upd) ⟨_, _, _, upd_same, by omega, by omega⟩
theorem ok__law_deck (T : Txt K mg) : FnOk P w K mg base CX0 1 T._law_deck.f T._law_deck.fd ["_law_script"] (spDeck K) := by
  refine T._law_deck.F.ok sc__law_deck (fun vs H Q E h => ?_) (fun cdv A outer s H vs Q E hr h => ?_)
  · obtain ⟨a, ns, rfl, _⟩ := h
    rfl
  obtain ⟨a, ns, rfl, hS, hlen, q⟩ := h
  have nd := sc__law_deck.nd
  refine ⟨_, (pss_cons (ps_par (i := 1) (j := 2) rfl nd rfl rfl (by decide) rfl rfl (pa_cons pe_int (pa_cons (pe_op op_add pe_int (pe_op op_mul pe_int (pe_callB call_len_seq (by rfl) T.m_len (by decide +kernel) (pa_cons (pv 0) pa_nil)))) pa_nil)) (by rfl))
      (pss_cons (ps_for PassesOwn.never rfl (pi_list (pe_slice sl_list (pv 0) po_none (po_some pe_int))) (pg_name (i := 3) nd rfl (.inl rfl))
        (pss_one (ps_if (pt_cmpR op_ge (pv 3) (pe_op op_pow pe_int pe_int) (nomark _))
          (pss_one (ps_set (i := 1) nd rfl (.inl rfl) (pe_op op_sub (pe_op op_add (pe_op op_mul (pv 1) pe_int) (pv 3)) (pe_op op_pow pe_int pe_int))))
          (pss_cons (ps_set (i := 2) nd rfl (.inl rfl) (pe_op op_add (pe_op op_mul (pv 2) pe_int) (pe_op op_mul pe_int (pe_callB call_abs (by rfl) T.m_abs (by decide +kernel) (pa_cons (pv 3) pa_nil)))))
          (pss_one (ps_set (i := 2) nd rfl (.inl rfl) (pe_op op_mod (pe_callTy call_int1 (by rfl) T.m_int boot_int (pa_cons (pe_op op_add (pv 2) (pe_callTy call_int1 (by rfl) T.m_int boot_int (pa_cons (pe_cmpR op_lt (pv 3) pe_int (nomark _)) pa_nil))) pa_nil)) pe_int)))))))
      (pss_one (ps_ret (pe_lst (pa_cons (pv 1) (pa_cons (pv 2) (pa_cons pe_int pa_nil)))))))), ?_⟩
  walk_at "go"
  refine ⟨a, _, rfl, hS, fun c nc => ?_⟩
  refine ⟨c, rfl, ⟨_, SqL.of upd_same⟩, for_list (xs := cutV (ns.map V.int) none (some 63)) (fun i σ H3 => ∃ (g m : Int) (y : Option V), σ = [some (.ref a), some (.int g), some (.int m), y] ∧ -(2 ^ 62) < m ∧ m < 2 ^ 62 ∧ H3 = upd H c (.lst (cutV (ns.map V.int) none (some 63)))) ?_ ?_ ?_ ?_⟩
  · refine ⟨_, _, _, rfl, ?_, ?_, rfl⟩
    · rw [List.length_map]; omega
    · rw [List.length_map]; omega
  · rintro i σ H3 hi ⟨g, m, y, rfl, _, _, rfl⟩
    exact SqL.of upd_same
  · rintro i x σ H3 hx ⟨g, m, y, rfl, h1, h2, rfl⟩
    obtain ⟨n, rfl⟩ := cut_int hx
    walk_at "go"
    refine ite2 (fun hg => ?_) (fun hg => ?_)
    · walk_at "go"
      exact ⟨_, _, _, rfl, h1, h2, rfl⟩
    · walk_at "go"
      exact ⟨_, _, _, rfl, by omega, by omega, rfl⟩
  · rintro σ H3 ⟨g, m, y, rfl, h1, h2, rfl⟩
    walk_at "go"
    intro D nD
    have nD2 : upd H c (.lst (cutV (ns.map V.int) none (some 63))) D = none := nD
    exact q D _ (Evl.fresh_back (ex_new nc) nD2) ((ex_new nc).trans (ex_new nD2)) ⟨_, _, _, upd_same, h1, h2⟩
theorem ok__law_frac (T : Txt K mg) : FnOk P w K mg base CX0 1 T._law_frac.f T._law_frac.fd ["_law_top", "_law_bottom"] spFrac := by
  refine T._law_frac.F.ok sc__law_frac (fun vs H Q E h => ?_) (fun cdv A outer s H vs Q E hr h => ?_)
  · obtain ⟨t, b, rfl, _⟩ := h
    rfl
  obtain ⟨t, b, rfl, hb0, ht, hb, q⟩ := h
  have nd := sc__law_frac.nd
  refine ⟨_, (pss_cons (ps_par (i := 2) (j := 3) rfl nd rfl rfl (by decide) rfl rfl (pa_cons (pe_callB call_abs (by rfl) T.m_abs (by decide +kernel) (pa_cons (pv 0) pa_nil)) (pa_cons (pe_callB call_abs (by rfl) T.m_abs (by decide +kernel) (pa_cons (pv 1) pa_nil)) pa_nil)) (by rfl))
      (pss_cons (ps_while PassesOwn.never (pt_cmpR op_gt (pv 3) pe_int (nomark _))
        (pss_one (ps_par (i := 2) (j := 3) rfl nd rfl rfl (by decide) rfl rfl (pa_cons (pv 3) (pa_cons (pe_op op_mod (pe_callTy call_int1 (by rfl) T.m_int boot_int (pa_cons (pv 2) pa_nil)) (pv 3)) pa_nil)) (by rfl))))
      (pss_cons (ps_set (i := 4) nd rfl (.inl rfl) (pe_ifExp (pt_cmpR op_gt (pv 1) pe_int (nomark _)) pe_int (pe_un un_neg pe_int)))
      (pss_one (ps_ret (pe_tup (pa_cons (pe_op op_fdivW (pe_op op_mul (pv 4) (pv 0)) (pv 2)) (pa_cons (pe_op op_fdivW (pe_op op_mul (pv 4) (pv 1)) (pv 2)) pa_nil)))))))), ?_⟩
  walk_at "go"
  have G0 := gcd_pos t hb0
  have G1 := gcd_lt t hb0 hb
  refine ⟨WF t b H, ⟨_, _, _, rfl, ?_, ?_, ?_, rfl, rfl⟩, fun m σ H' hW => ?_⟩
  · split <;> omega
  · split <;> omega
  · exact gcd_abs t b
  obtain ⟨x, y, rfl, hx, hy, hxy, rfl, rfl⟩ := hW
  walk_at "go"
  refine ite2 (fun hg => ?_) (fun hg => ?_)
  · have hy0 : 0 < y := of_decide_eq_true hg
    refine ⟨fun σ' H'' => ∃ m', m' < y.natAbs ∧ WF t b H' m' σ' H'', fun σ' H'' n => n, ?_⟩
    walk_at "go"
    refine ⟨_, ?_, _, _, rfl, hy, Int.emod_nonneg _ (by omega), ?_, rfl, rfl⟩
    · have := Int.emod_lt_of_pos x hy0
      have := Int.emod_nonneg x (b := y) (by omega)
      omega
    · rw [← hxy]
      exact gcd_step hx hy0
  · have hy0 : y = 0 := by
      have : ¬ 0 < y := fun z => hg (decide_eq_true z)
      omega
    subst hy0
    have ex : x = ((Nat.gcd t.natAbs b.natAbs : Nat) : Int) := by
      rw [Int.natAbs_zero, Nat.gcd_zero_right] at hxy
      omega
    subst ex
    have D1 : CDivW 0 ((Nat.gcd t.natAbs b.natAbs : Nat) : Int) := wide_div (b := 8000) (by omega) (by omega) (by decide) (by decide)
    walk_at "go"
    refine ite2 (fun hs => ?_) (fun hs => ?_)
    · have hs0 : 0 < b := of_decide_eq_true hs
      walk_at "go"
      refine fun p np => q p _ np (ex_new np) ?_
      rw [upd_same]
      unfold fr
      rw [if_pos hs0]
      rfl
    · have hs0 : ¬ 0 < b := fun z => hs (decide_eq_true z)
      walk_at "go"
      refine fun p np => q p _ np (ex_new np) ?_
      rw [upd_same]
      unfold fr
      rw [if_neg hs0]
      rfl
end
section
variable {P : Program} {w : World} {K : PySem.W.Frag} {mg : Str → Option Value} {base : Heap}
theorem ok__law_number (T : Txt K mg) : FnOk P w K mg base CX0 2 T._law_number.f T._law_number.fd ["_law_deck_here", "_law_kind"] spNumber := by
  refine T._law_number.F.ok sc__law_number (fun vs H Q E h => ?_) (fun cdv A outer s H vs Q E hr h => ?_)
  · obtain ⟨D, k, rfl, _⟩ := h
    rfl
  obtain ⟨D, k, rfl, hd, k0, k1, q⟩ := h
  have nd := sc__law_number.nd
  refine ⟨_, (pss_cons (ps_set (i := 2) nd rfl (.inl rfl) (pe_ix ix_tup (pe_tup (pa_cons pe_int (pa_cons pe_int (pa_cons (pe_op op_pow pe_int pe_int) (pa_cons (pe_op op_pow pe_int pe_int) pa_nil))))) (pv 1) (fun _ _ => rfl)))
      (pss_one (ps_ret (pe_op op_sub (pe_call (ok__law_take T) (hr.mono (by decide)) (by rfl) T._law_take.g T._law_take.F.kp T._law_take.b .nil pass0 (pa_cons (pv 0) (pa_cons (pe_op op_add (pe_op op_mul pe_int (pv 2)) pe_int) pa_nil))) (pv 2))))), ?_⟩
  walk_at "go"
  intro p np
  have d1 : DeckAt (upd H p (.tup [.int 5, .int 30, .int (10 ^ (4 : Int).toNat), .int (10 ^ (18 : Int).toNat)])) D := hd.ex (ex_new np)
  have b1 : Bu D H (upd H p (.tup [.int 5, .int 30, .int (10 ^ (4 : Int).toNat), .int (10 ^ (18 : Int).toNat)])) := Bu.new np
  obtain rfl | rfl | rfl | rfl : k = 0 ∨ k = 1 ∨ k = 2 ∨ k = 3 := by omega
  · walk_at "go"
    intro v H' h0 h1 bu dk
    walk_at "go"
    exact q _ _ (num_le h0 h1 (by decide +kernel)) (b1.trans bu) dk
  · walk_at "go"
    intro v H' h0 h1 bu dk
    walk_at "go"
    exact q _ _ (num_le h0 h1 (by decide +kernel)) (b1.trans bu) dk
  · walk_at "go"
    intro v H' h0 h1 bu dk
    walk_at "go"
    exact q _ _ (num_le h0 h1 (by decide +kernel)) (b1.trans bu) dk
  · walk_at "go"
    intro v H' h0 h1 bu dk
    walk_at "go"
    exact q _ _ (num_le h0 h1 (by decide +kernel)) (b1.trans bu) dk
end
section
variable {P : Program} {w : World} {K : PySem.W.Frag} {mg : Str → Option Value} {base : Heap}
theorem ok__lowest (T : Txt K mg) : FnOk P w K mg base CX0 1 T._lowest.f T._lowest.fd ["top", "bottom"] spFrac := by
  refine T._lowest.F.ok sc__lowest (fun vs H Q E h => ?_) (fun cdv A outer s H vs Q E hr h => ?_)
  · obtain ⟨t, b, rfl, _⟩ := h
    rfl
  obtain ⟨t, b, rfl, hb0, ht, hb, q⟩ := h
  have nd := sc__lowest.nd
  have G0 := gcd_pos t hb0
  have G1 := gcd_lt t hb0 hb
  refine ⟨_, (pss_cons (ps_set (i := 2) nd rfl (.inl rfl) (pe_callBfun cr_gcd (by rfl) T.g_gcd (pa_cons (pv 0) (pa_cons (pv 1) pa_nil))))
      (pss_cons (ps_if (pt_cmpR op_lt (pv 1) pe_int (nomark _))
        (pss_one (ps_set (i := 2) nd rfl (.inl rfl) (pe_un un_neg (pv 2))))
        pss_nil)
      (pss_one (ps_ret (pe_tup (pa_cons (pe_op op_fdivA (pv 0) (pv 2)) (pa_cons (pe_op op_fdivA (pv 1) (pv 2)) pa_nil))))))), ?_⟩
  walk_at "go"
  refine ite2 (fun hs => ?_) (fun hs => ?_)
  · have hs0 : b < 0 := of_decide_eq_true hs
    have D1 : CDivA 0 (-((Nat.gcd t.natAbs b.natAbs : Nat) : Int)) := ⟨by omega, PySem.Flt.log2_lt_of (by decide) (Nat.lt_of_le_of_lt (by omega) (Nat.lt_of_lt_of_le G1 (Nat.pow_le_pow_right (by decide) (show 8000 ≤ 9000 by decide))))⟩
    walk_at "go"
    refine fun p np => q p _ np (ex_new np) ?_
    rw [upd_same]
    unfold fr
    rw [if_neg (by omega)]
    dsimp only
    rw [fdiv_neg (dvd_t t b), fdiv_neg (dvd_b t b)]
    rfl
  · have hs0 : 0 < b := by
      have : ¬ b < 0 := fun z => hs (decide_eq_true z)
      omega
    have D1 : CDivA 0 ((Nat.gcd t.natAbs b.natAbs : Nat) : Int) := ⟨by omega, PySem.Flt.log2_lt_of (by decide) (Nat.lt_of_le_of_lt (by omega) (Nat.lt_of_lt_of_le G1 (Nat.pow_le_pow_right (by decide) (show 8000 ≤ 9000 by decide))))⟩
    walk_at "go"
    refine fun p np => q p _ np (ex_new np) ?_
    rw [upd_same]
    unfold fr
    rw [if_pos hs0]
    dsimp only
    rw [fdiv_pos (by omega), fdiv_pos (by omega), Int.one_mul, Int.one_mul]
    rfl
end
end K2
namespace K2
open PySem PySem.Spec PyProof.Rows L2 Qj
local macro_rules | `(tactic| walk_at "go") => `(tactic| repeat (first
  | (refine ⟨_, rfl, ?_⟩)
  | (refine ⟨_, _, rfl, rfl, ?_⟩)
  | (refine ⟨_, _, rfl, ?_⟩)
  | (refine ⟨_, _, _, _, rfl, rfl, SqL.of (by assumption), rfl, ?_⟩)
  | (refine ⟨_, _, _, _, rfl, rfl, SqL.of upd_same, rfl, ?_⟩)
  | (refine ⟨_, _, _, _, rfl, rfl, SqT.of (by assumption), rfl, ?_⟩)
  | (refine ⟨_, _, _, _, rfl, rfl, SqT.of upd_same, rfl, ?_⟩)
  | (refine ⟨_, _, _, _, rfl, rfl, (by assumption), rfl, ?_⟩)
  | (refine ⟨_, _, _, _, rfl, rfl, upd_same, rfl, ?_⟩)
  | (refine ⟨_, _, rfl, Or.inl (by assumption), ?_⟩)
  | (refine ⟨_, _, rfl, Or.inr (SqT.of (by assumption)), ?_⟩)
  | (refine ⟨_, _, rfl, Or.inr (SqT.of upd_same), ?_⟩)
  | (refine ⟨_, _, rfl, Or.inl (SqL.of (by assumption)), ?_⟩)
  | (refine ⟨_, _, rfl, SqT.of (by assumption), rfl, ?_⟩)
  | (refine ⟨_, _, rfl, Kn.int _, ?_⟩)
  | (refine ⟨_, _, rfl, (by assumption : Kn _ _ _), ?_⟩)
  | (refine iteNS rfl ?_)
  | (refine iteF ?_)
  | (refine iteT ?_)
  | (refine Or.inl ⟨_, rfl, ?_⟩)
  | (refine Or.inr ⟨_, rfl, ?_⟩)
  | (refine And.intro sz4 ?_)
  | (refine And.intro (by first | exact rfl | assumption | decide | (show (0 : Int) < _; decide) | exact wide_div (b := 63) (by assumption) (by omega) (by decide) (by decide) | exact wide_div (b := 63) (by decide) (by decide) (by decide) (by decide) | exact Or.inl ⟨by decide, by decide⟩ | exact Or.inr ⟨by decide, by decide⟩ | exact ⟨by decide, by decide, by decide⟩ | exact Or.inl ⟨by omega, by omega⟩ | exact Or.inr ⟨by omega, by omega⟩) ?_)))

section
variable {P : Program} {w : World} {K : PySem.W.Frag} {mg : Str → Option Value} {base : Heap}
theorem ok_plus (T : Txt K mg) : FnOk P w K mg base CX0 2 T.plus.f T.plus.fd ["one", "other"] (spBin pl) := by
  refine T.plus.F.ok sc_plus (fun vs H Q E h => ?_) (fun cdv A outer s H vs Q E hr h => ?_)
  · obtain ⟨p, q, x, y, k, rfl, _⟩ := h
    rfl
  obtain ⟨p, q, x, y, k, rfl, hp, hq, sx, sy, hk, qq⟩ := h
  have nd := sc_plus.nd
  have hp' : H p = some (.tup [.int x.1, .int x.2]) := hp
  have hq' : H q = some (.tup [.int y.1, .int y.2]) := hq
  have y1 := sy.t
  have y2 := sy.b
  refine ⟨_, (pss_one (ps_ret (pe_call (ok__lowest T) (hr.mono (by decide)) (by rfl) T._lowest.g T._lowest.F.kp T._lowest.b .nil pass0 (pa_cons (pe_op op_add (pe_op op_mul (pe_ix ix_tup (pv 0) pe_int (fun _ _ => rfl)) (pe_ix ix_tup (pv 1) pe_int (fun _ _ => rfl))) (pe_op op_mul (pe_ix ix_tup (pv 1) pe_int (fun _ _ => rfl)) (pe_ix ix_tup (pv 0) pe_int (fun _ _ => rfl)))) (pa_cons (pe_op op_mul (pe_ix ix_tup (pv 0) pe_int (fun _ _ => rfl)) (pe_ix ix_tup (pv 1) pe_int (fun _ _ => rfl))) pa_nil))))), ?_⟩
  walk_at "go"
  exact ⟨bot_ne sx sy, pow_up (pl_t sx sy) (by omega), pow_up (pr_b sx sy) (by omega), qq⟩
theorem ok_minus (T : Txt K mg) : FnOk P w K mg base CX0 2 T.minus.f T.minus.fd ["one", "other"] (spBin mi) := by
  refine T.minus.F.ok sc_minus (fun vs H Q E h => ?_) (fun cdv A outer s H vs Q E hr h => ?_)
  · obtain ⟨p, q, x, y, k, rfl, _⟩ := h
    rfl
  obtain ⟨p, q, x, y, k, rfl, hp, hq, sx, sy, hk, qq⟩ := h
  have nd := sc_minus.nd
  have hp' : H p = some (.tup [.int x.1, .int x.2]) := hp
  have hq' : H q = some (.tup [.int y.1, .int y.2]) := hq
  have y1 := sy.t
  have y2 := sy.b
  refine ⟨_, (pss_one (ps_ret (pe_call (ok__lowest T) (hr.mono (by decide)) (by rfl) T._lowest.g T._lowest.F.kp T._lowest.b .nil pass0 (pa_cons (pe_op op_sub (pe_op op_mul (pe_ix ix_tup (pv 0) pe_int (fun _ _ => rfl)) (pe_ix ix_tup (pv 1) pe_int (fun _ _ => rfl))) (pe_op op_mul (pe_ix ix_tup (pv 1) pe_int (fun _ _ => rfl)) (pe_ix ix_tup (pv 0) pe_int (fun _ _ => rfl)))) (pa_cons (pe_op op_mul (pe_ix ix_tup (pv 0) pe_int (fun _ _ => rfl)) (pe_ix ix_tup (pv 1) pe_int (fun _ _ => rfl))) pa_nil))))), ?_⟩
  walk_at "go"
  exact ⟨bot_ne sx sy, pow_up (mi_t sx sy) (by omega), pow_up (pr_b sx sy) (by omega), qq⟩
theorem ok_times (T : Txt K mg) : FnOk P w K mg base CX0 2 T.times.f T.times.fd ["one", "other"] (spBin ti) := by
  refine T.times.F.ok sc_times (fun vs H Q E h => ?_) (fun cdv A outer s H vs Q E hr h => ?_)
  · obtain ⟨p, q, x, y, k, rfl, _⟩ := h
    rfl
  obtain ⟨p, q, x, y, k, rfl, hp, hq, sx, sy, hk, qq⟩ := h
  have nd := sc_times.nd
  have hp' : H p = some (.tup [.int x.1, .int x.2]) := hp
  have hq' : H q = some (.tup [.int y.1, .int y.2]) := hq
  have y1 := sy.t
  have y2 := sy.b
  refine ⟨_, (pss_one (ps_ret (pe_call (ok__lowest T) (hr.mono (by decide)) (by rfl) T._lowest.g T._lowest.F.kp T._lowest.b .nil pass0 (pa_cons (pe_op op_mul (pe_ix ix_tup (pv 0) pe_int (fun _ _ => rfl)) (pe_ix ix_tup (pv 1) pe_int (fun _ _ => rfl))) (pa_cons (pe_op op_mul (pe_ix ix_tup (pv 0) pe_int (fun _ _ => rfl)) (pe_ix ix_tup (pv 1) pe_int (fun _ _ => rfl))) pa_nil))))), ?_⟩
  walk_at "go"
  exact ⟨bot_ne sx sy, pow_up (pr_t sx sy) (by omega), pow_up (pr_b sx sy) (by omega), qq⟩
theorem ok__law_plus (T : Txt K mg) : FnOk P w K mg base CX0 2 T._law_plus.f T._law_plus.fd ["_law_one", "_law_other"] (spBin pl) := by
  refine T._law_plus.F.ok sc__law_plus (fun vs H Q E h => ?_) (fun cdv A outer s H vs Q E hr h => ?_)
  · obtain ⟨p, q, x, y, k, rfl, _⟩ := h
    rfl
  obtain ⟨p, q, x, y, k, rfl, hp, hq, sx, sy, hk, qq⟩ := h
  have nd := sc__law_plus.nd
  have hp' : H p = some (.tup [.int x.1, .int x.2]) := hp
  have hq' : H q = some (.tup [.int y.1, .int y.2]) := hq
  have y1 := sy.t
  have y2 := sy.b
  refine ⟨_, (pss_one (ps_ret (pe_call (ok__law_frac T) (hr.mono (by decide)) (by rfl) T._law_frac.g T._law_frac.F.kp T._law_frac.b .nil pass0 (pa_cons (pe_op op_add (pe_op op_mul (pe_ix ix_tup (pv 0) pe_int (fun _ _ => rfl)) (pe_ix ix_tup (pv 1) pe_int (fun _ _ => rfl))) (pe_op op_mul (pe_ix ix_tup (pv 1) pe_int (fun _ _ => rfl)) (pe_ix ix_tup (pv 0) pe_int (fun _ _ => rfl)))) (pa_cons (pe_op op_mul (pe_ix ix_tup (pv 0) pe_int (fun _ _ => rfl)) (pe_ix ix_tup (pv 1) pe_int (fun _ _ => rfl))) pa_nil))))), ?_⟩
  walk_at "go"
  exact ⟨bot_ne sx sy, pow_up (pl_t sx sy) (by omega), pow_up (pr_b sx sy) (by omega), qq⟩
theorem ok__law_minus (T : Txt K mg) : FnOk P w K mg base CX0 2 T._law_minus.f T._law_minus.fd ["_law_one", "_law_other"] (spBin mi) := by
  refine T._law_minus.F.ok sc__law_minus (fun vs H Q E h => ?_) (fun cdv A outer s H vs Q E hr h => ?_)
  · obtain ⟨p, q, x, y, k, rfl, _⟩ := h
    rfl
  obtain ⟨p, q, x, y, k, rfl, hp, hq, sx, sy, hk, qq⟩ := h
  have nd := sc__law_minus.nd
  have hp' : H p = some (.tup [.int x.1, .int x.2]) := hp
  have hq' : H q = some (.tup [.int y.1, .int y.2]) := hq
  have y1 := sy.t
  have y2 := sy.b
  refine ⟨_, (pss_one (ps_ret (pe_call (ok__law_frac T) (hr.mono (by decide)) (by rfl) T._law_frac.g T._law_frac.F.kp T._law_frac.b .nil pass0 (pa_cons (pe_op op_sub (pe_op op_mul (pe_ix ix_tup (pv 0) pe_int (fun _ _ => rfl)) (pe_ix ix_tup (pv 1) pe_int (fun _ _ => rfl))) (pe_op op_mul (pe_ix ix_tup (pv 1) pe_int (fun _ _ => rfl)) (pe_ix ix_tup (pv 0) pe_int (fun _ _ => rfl)))) (pa_cons (pe_op op_mul (pe_ix ix_tup (pv 0) pe_int (fun _ _ => rfl)) (pe_ix ix_tup (pv 1) pe_int (fun _ _ => rfl))) pa_nil))))), ?_⟩
  walk_at "go"
  exact ⟨bot_ne sx sy, pow_up (mi_t sx sy) (by omega), pow_up (pr_b sx sy) (by omega), qq⟩
theorem ok__law_times (T : Txt K mg) : FnOk P w K mg base CX0 2 T._law_times.f T._law_times.fd ["_law_one", "_law_other"] (spBin ti) := by
  refine T._law_times.F.ok sc__law_times (fun vs H Q E h => ?_) (fun cdv A outer s H vs Q E hr h => ?_)
  · obtain ⟨p, q, x, y, k, rfl, _⟩ := h
    rfl
  obtain ⟨p, q, x, y, k, rfl, hp, hq, sx, sy, hk, qq⟩ := h
  have nd := sc__law_times.nd
  have hp' : H p = some (.tup [.int x.1, .int x.2]) := hp
  have hq' : H q = some (.tup [.int y.1, .int y.2]) := hq
  have y1 := sy.t
  have y2 := sy.b
  refine ⟨_, (pss_one (ps_ret (pe_call (ok__law_frac T) (hr.mono (by decide)) (by rfl) T._law_frac.g T._law_frac.F.kp T._law_frac.b .nil pass0 (pa_cons (pe_op op_mul (pe_ix ix_tup (pv 0) pe_int (fun _ _ => rfl)) (pe_ix ix_tup (pv 1) pe_int (fun _ _ => rfl))) (pa_cons (pe_op op_mul (pe_ix ix_tup (pv 0) pe_int (fun _ _ => rfl)) (pe_ix ix_tup (pv 1) pe_int (fun _ _ => rfl))) pa_nil))))), ?_⟩
  walk_at "go"
  exact ⟨bot_ne sx sy, pow_up (pr_t sx sy) (by omega), pow_up (pr_b sx sy) (by omega), qq⟩
theorem ok_over (T : Txt K mg) : FnOk P w K mg base (L2.CX P w) 2 T.over.f T.over.fd ["one", "other"] (spOver T.C) := by
  refine T.over.F.okX sc_over (fun vs H Q E h => ?_) (fun cdv A outer s H vs Q E hr h => ?_)
  · obtain ⟨p, q, x, y, rfl, _⟩ := h
    rfl
  obtain ⟨p, q, x, y, rfl, hp, hq, sx, sy, q1, q2⟩ := h
  have nd := sc_over.nd
  have hp' : H p = some (.tup [.int x.1, .int x.2]) := hp
  have hq' : H q = some (.tup [.int y.1, .int y.2]) := hq
  have y1 := sy.t
  have y2 := sy.b
  refine ⟨_, (pss_cons (ps_if (pt_cmpR op_eq (pe_ix ix_tup (pv 1) pe_int (fun _ _ => rfl)) pe_int (nomark _))
        (pss_one (ps_raise rfl (takes_of rfl rfl rfl rfl) (pmk_own0 PySem.F.excBase_ValueError T.xC T.gC T.kC (raises_own T.bC T.tC) (by rfl))))
        pss_nil)
      (pss_one (ps_ret (pe_call (ok__lowest T) (hr.mono (by decide)) (by rfl) T._lowest.g T._lowest.F.kp T._lowest.b .nil pass0 (pa_cons (pe_op op_mul (pe_ix ix_tup (pv 0) pe_int (fun _ _ => rfl)) (pe_ix ix_tup (pv 1) pe_int (fun _ _ => rfl))) (pa_cons (pe_op op_mul (pe_ix ix_tup (pv 0) pe_int (fun _ _ => rfl)) (pe_ix ix_tup (pv 1) pe_int (fun _ _ => rfl))) pa_nil)))))), ?_⟩
  walk_at "go"
  refine ite2 (fun h => ?_) (fun h => ?_)
  · exact q1 (eq_of_test h)
  · have z := eq_of_test' h
    walk_at "go"
    exact ⟨ov_ne sx z, pow_up (mul_lt sx.t sy.b) (by omega), pow_up (mul_lt sx.b sy.t) (by omega), q2 z⟩
theorem ok_compare (T : Txt K mg) : FnOk P w K mg base CX0 1 T.compare.f T.compare.fd ["one", "other"] spCmp := by
  refine T.compare.F.ok sc_compare (fun vs H Q E h => ?_) (fun cdv A outer s H vs Q E hr h => ?_)
  · obtain ⟨p, q, x, y, rfl, _⟩ := h
    rfl
  obtain ⟨p, q, x, y, rfl, hp, hq, sx, sy, qq⟩ := h
  have nd := sc_compare.nd
  have hp' : H p = some (.tup [.int x.1, .int x.2]) := hp
  have hq' : H q = some (.tup [.int y.1, .int y.2]) := hq
  have y1 := sy.t
  have y2 := sy.b
  unfold cmpV at qq
  refine ⟨_, (pss_cons (ps_set (i := 2) nd rfl (.inl rfl) (pe_op op_mul (pe_ix ix_tup (pv 0) pe_int (fun _ _ => rfl)) (pe_ix ix_tup (pv 1) pe_int (fun _ _ => rfl))))
      (pss_cons (ps_set (i := 3) nd rfl (.inl rfl) (pe_op op_mul (pe_ix ix_tup (pv 1) pe_int (fun _ _ => rfl)) (pe_ix ix_tup (pv 0) pe_int (fun _ _ => rfl))))
      (pss_cons (ps_if (pt_cmpR op_lt (pv 2) (pv 3) (nomark _))
        (pss_one (ps_ret (pe_un un_neg pe_int)))
        pss_nil)
      (pss_cons (ps_if (pt_cmpR op_gt (pv 2) (pv 3) (nomark _))
        (pss_one (ps_ret pe_int))
        pss_nil)
      (pss_one (ps_ret pe_int)))))), ?_⟩
  walk_at "go"
  refine ite2 (fun h => ?_) (fun h => ?_)
  · walk_at "go"
    rw [if_pos (of_decide_eq_true h)] at qq
    exact qq
  · rw [if_neg (fun z => h (decide_eq_true z))] at qq
    walk_at "go"
    refine ite2 (fun g => ?_) (fun g => ?_)
    · walk_at "go"
      rw [if_pos (of_decide_eq_true g)] at qq
      exact qq
    · rw [if_neg (fun z => g (decide_eq_true z))] at qq
      exact qq
theorem ok_floor_of (T : Txt K mg) : FnOk P w K mg base CX0 1 T.floor_of.f T.floor_of.fd ["one"] spFloor := by
  refine T.floor_of.F.ok sc_floor_of (fun vs H Q E h => ?_) (fun cdv A outer s H vs Q E hr h => ?_)
  · obtain ⟨p, x, rfl, _⟩ := h
    rfl
  obtain ⟨p, x, rfl, hp, sx, qq⟩ := h
  have nd := sc_floor_of.nd
  have hp' : H p = some (.tup [.int x.1, .int x.2]) := hp
  have x1 := sx.b
  have x2 := sx.p
  refine ⟨_, (pss_one (ps_ret (pe_op op_fdivW (pe_ix ix_tup (pv 0) pe_int (fun _ _ => rfl)) (pe_ix ix_tup (pv 0) pe_int (fun _ _ => rfl))))), ?_⟩
  walk_at "go"
  exact qq
theorem ok_part_of (T : Txt K mg) : FnOk P w K mg base CX0 1 T.part_of.f T.part_of.fd ["one"] spPart := by
  refine T.part_of.F.ok sc_part_of (fun vs H Q E h => ?_) (fun cdv A outer s H vs Q E hr h => ?_)
  · obtain ⟨p, x, rfl, _⟩ := h
    rfl
  obtain ⟨p, x, rfl, hp, sx, qq⟩ := h
  have nd := sc_part_of.nd
  have hp' : H p = some (.tup [.int x.1, .int x.2]) := hp
  have x1 := sx.b
  have x2 := sx.p
  refine ⟨_, (pss_cons (ps_asg (pv 0) (pg_tup rfl (pgs_cons (pg_name (i := 1) nd rfl (.inl rfl)) (pgs_cons (pg_name (i := 2) nd rfl (.inl rfl)) pgs_nil))))
      (pss_one (ps_ret (pe_tup (pa_cons (pe_op op_mod (pv 1) (pv 2)) (pa_cons (pv 2) pa_nil)))))), ?_⟩
  walk_at "go"
  intro r nr
  exact qq r _ nr (ex_new nr) upd_same
theorem ok__law_part (T : Txt K mg) : FnOk P w K mg base CX0 1 T._law_part.f T._law_part.fd ["_law_one"] spPart := by
  refine T._law_part.F.ok sc__law_part (fun vs H Q E h => ?_) (fun cdv A outer s H vs Q E hr h => ?_)
  · obtain ⟨p, x, rfl, _⟩ := h
    rfl
  obtain ⟨p, x, rfl, hp, sx, qq⟩ := h
  have nd := sc__law_part.nd
  have hp' : H p = some (.tup [.int x.1, .int x.2]) := hp
  have x1 := sx.b
  have x2 := sx.p
  refine ⟨_, (pss_one (ps_ret (pe_tup (pa_cons (pe_op op_mod (pe_callTy call_int1 (by rfl) T.m_int boot_int (pa_cons (pe_ix ix_tup (pv 0) pe_int (fun _ _ => rfl)) pa_nil)) (pe_ix ix_tup (pv 0) pe_int (fun _ _ => rfl))) (pa_cons (pe_ix ix_tup (pv 0) pe_int (fun _ _ => rfl)) pa_nil))))), ?_⟩
  walk_at "go"
  intro r nr
  exact qq r _ nr (ex_new nr) upd_same
end
end K2
namespace K2
open PySem PySem.Spec PyProof.Rows L2 Qj
local macro_rules | `(tactic| walk_at "go") => `(tactic| repeat (first
  | (refine ⟨_, rfl, ?_⟩)
  | (refine ⟨_, _, rfl, rfl, ?_⟩)
  | (refine ⟨_, _, rfl, ?_⟩)
  | (refine ⟨_, _, _, _, rfl, rfl, SqL.of (by assumption), rfl, ?_⟩)
  | (refine ⟨_, _, _, _, rfl, rfl, SqL.of upd_same, rfl, ?_⟩)
  | (refine ⟨_, _, _, _, rfl, rfl, SqT.of (by assumption), rfl, ?_⟩)
  | (refine ⟨_, _, _, _, rfl, rfl, SqT.of upd_same, rfl, ?_⟩)
  | (refine ⟨_, _, _, _, rfl, rfl, (by assumption), rfl, ?_⟩)
  | (refine ⟨_, _, _, _, rfl, rfl, upd_same, rfl, ?_⟩)
  | (refine ⟨_, _, rfl, Or.inl (by assumption), ?_⟩)
  | (refine ⟨_, _, rfl, Or.inr (SqT.of (by assumption)), ?_⟩)
  | (refine ⟨_, _, rfl, Or.inr (SqT.of upd_same), ?_⟩)
  | (refine ⟨_, _, rfl, Or.inl (SqL.of (by assumption)), ?_⟩)
  | (refine ⟨_, _, rfl, SqT.of (by assumption), rfl, ?_⟩)
  | (refine ⟨_, _, rfl, Kn.int _, ?_⟩)
  | (refine ⟨_, _, rfl, (by assumption : Kn _ _ _), ?_⟩)
  | (refine iteNS rfl ?_)
  | (refine iteF ?_)
  | (refine iteT ?_)
  | (refine Or.inl ⟨_, rfl, ?_⟩)
  | (refine Or.inr ⟨_, rfl, ?_⟩)
  | (refine And.intro sz4 ?_)
  | (refine And.intro (by first | exact rfl | assumption | decide | (show (0 : Int) < _; decide) | exact wide_div (b := 63) (by assumption) (by omega) (by decide) (by decide) | exact wide_div (b := 63) (by decide) (by decide) (by decide) (by decide) | exact Or.inl ⟨by decide, by decide⟩ | exact Or.inr ⟨by decide, by decide⟩ | exact ⟨by decide, by decide, by decide⟩ | exact Or.inl ⟨by omega, by omega⟩ | exact Or.inr ⟨by omega, by omega⟩) ?_)))

def spDraw : Sp := fun vs H Q _ => ∃ D : Addr, vs = [.ref D] ∧ DeckAt H D ∧ ∀ (r : Addr) (x : Int × Int) (H' : Hp), H' r = some (frV x) → Sm 62 x → Nat.gcd x.1.natAbs x.2.natAbs = 1 → Bu D H H' → DeckAt H' D → Q (.ref r) H'
theorem draw_b {u L : Int} (h0 : 0 ≤ u) (h1 : u < L) (hL : L ≤ 10 ^ 18) : 1 + u ≠ 0 ∧ (1 + u).natAbs < 2 ^ 62 := ⟨by omega, by omega⟩
def spTot1 : Sp := fun vs H Q _ => ∃ (p : Addr) (ws : List V) (xs : List (Int × Int)), vs = [.ref p] ∧ H p = some (.tup ws) ∧ FrL H ws xs ∧ xs.length ≤ 10 ∧ ∀ r H', H r = none → Evl.Ex H H' → H' r = some (frV (tot xs)) → Q (.ref r) H'
inductive OvQ : Int × Int → Int × Int → Str → Prop where
  | zero {x y : Int × Int} : y.1 = 0 → OvQ x y refused
  | val {x y : Int × Int} : y.1 ≠ 0 → OvQ x y (frD (ov x y)).shown
def spOv : Sp := fun vs H Q _ => ∃ (p q : Addr) (x y : Int × Int) (r : Str), vs = [.ref p, .ref q] ∧ H p = some (frV x) ∧ H q = some (frV y) ∧ Sm 62 x ∧ Sm 62 y ∧ OvQ x y r ∧ ∀ H', Evl.Ex H H' → Q (.str r) H'
section
variable {P : Program} {w : World} {K : PySem.W.Frag} {mg : Str → Option Value} {base : Heap}
theorem ok__law_fraction (T : Txt K mg) : FnOk P w K mg base CX0 3 T._law_fraction.f T._law_fraction.fd ["_law_deck_here"] spDraw := by
  refine T._law_fraction.F.ok sc__law_fraction (fun vs H Q E h => ?_) (fun cdv A outer s H vs Q E hr h => ?_)
  · obtain ⟨D, rfl, _⟩ := h
    rfl
  obtain ⟨D, rfl, hd, q⟩ := h
  have nd := sc__law_fraction.nd
  refine ⟨_, (pss_cons (ps_set (i := 1) nd rfl (.inl rfl) (pe_call (ok__law_take T) (hr.mono (by decide)) (by rfl) T._law_take.g T._law_take.F.kp T._law_take.b .nil pass0 (pa_cons (pv 0) (pa_cons pe_int pa_nil))))
      (pss_one (ps_ret (pe_call (ok__law_frac T) (hr.mono (by decide)) (by rfl) T._law_frac.g T._law_frac.F.kp T._law_frac.b .nil pass0 (pa_cons (pe_call (ok__law_number T) (hr.mono (by decide)) (by rfl) T._law_number.g T._law_number.F.kp T._law_number.b .nil pass0 (pa_cons (pv 0) (pa_cons (pv 1) pa_nil))) (pa_cons (pe_op op_add pe_int (pe_call (ok__law_take T) (hr.mono (by decide)) (by rfl) T._law_take.g T._law_take.F.kp T._law_take.b .nil pass0 (pa_cons (pv 0) (pa_cons (pe_ix ix_tup (pe_tup (pa_cons pe_int (pa_cons pe_int (pa_cons (pe_op op_pow pe_int pe_int) (pa_cons (pe_op op_pow pe_int pe_int) pa_nil))))) (pv 1) (fun _ _ => rfl)) pa_nil)))) pa_nil)))))), ?_⟩
  walk_at "go"
  intro v H1 h0 h1 bu1 d1
  walk_at "go"
  intro n H2 hn bu2 d2
  walk_at "go"
  intro p np
  have d3 : DeckAt (upd H2 p (.tup [.int 4, .int 30, .int (10 ^ (4 : Int).toNat), .int (10 ^ (18 : Int).toNat)])) D := d2.ex (ex_new np)
  have b3 : Bu D H (upd H2 p (.tup [.int 4, .int 30, .int (10 ^ (4 : Int).toNat), .int (10 ^ (18 : Int).toNat)])) := bu1.trans (bu2.trans (Bu.new np))
  have ln : n.natAbs < 2 ^ 62 := Nat.lt_of_le_of_lt hn (by decide +kernel)
  have fin : ∀ (u L : Int) (H4 : Hp), 0 ≤ u → u < L → L ≤ 10 ^ 18 → Bu D (upd H2 p (.tup [.int 4, .int 30, .int (10 ^ (4 : Int).toNat), .int (10 ^ (18 : Int).toNat)])) H4 → DeckAt H4 D →
      1 + u ≠ 0 ∧ n.natAbs < 2 ^ 8000 ∧ (1 + u).natAbs < 2 ^ 8000 ∧ ∀ r H', H4 r = none → Evl.Ex H4 H' → H' r = some (frV (fr n (1 + u))) → Q (.ref r) H' := by
    intro u L H4 u0 u1 hL bu4 d4
    obtain ⟨a1, a2⟩ := draw_b u0 u1 hL
    exact ⟨a1, pow_up ln (by decide), pow_up a2 (by decide), fun r H' nr e hr' => q r _ H' hr' (sm_fr a1 ln a2) (fr_gcd a1) (b3.trans (bu4.trans (Bu.of e))) (d4.ex e)⟩
  obtain rfl | rfl | rfl | rfl : v = 0 ∨ v = 1 ∨ v = 2 ∨ v = 3 := by omega
  · walk_at "go"
    intro u H4 u0 u1 bu4 d4
    walk_at "go"
    exact fin _ _ _ u0 u1 (by decide +kernel) bu4 d4
  · walk_at "go"
    intro u H4 u0 u1 bu4 d4
    walk_at "go"
    exact fin _ _ _ u0 u1 (by decide +kernel) bu4 d4
  · walk_at "go"
    intro u H4 u0 u1 bu4 d4
    walk_at "go"
    exact fin _ _ _ u0 u1 (by decide +kernel) bu4 d4
  · walk_at "go"
    intro u H4 u0 u1 bu4 d4
    walk_at "go"
    exact fin _ _ _ u0 u1 (by decide +kernel) bu4 d4
theorem ok_total (T : Txt K mg) : FnR P w K mg base CX0 3 T.tF spTotal := by
  obtain ⟨oc, od, kV, doc, pm, an, cdv, ct, osl, lk, hcd⟩ := T.tX
  have F := StX.fn_star (P := P) (w := w) (mg := mg) (base := base) (CX := CX0) (ps := []) (pv := "some") (k := 2) (sp := spTot1) lk hcd sc_total StX.cxUp_none (fun us rest hl => by
    match us, hl with
    | [], _ =>
      cases rest with
      | nil => rfl
      | cons a l => rfl) (fun A outer s H vs Q E hr h => by
      obtain ⟨p, ws, xs, rfl, hp, hx, hz, q⟩ := h
      have nd := sc_total.nd
      refine ⟨_, PSs.nox (pss_cons (ps_set (i := 1) nd rfl (.inl rfl) (pe_tup (pa_cons pe_int (pa_cons pe_int pa_nil))))
      (pss_cons (ps_for PassesOwn.never rfl (pi_tup (pv 0)) (pg_name (i := 2) nd rfl (.inl rfl))
        (pss_one (ps_set (i := 1) nd rfl (.inl rfl) (pe_call (ok_plus T) (hr.mono (by decide)) (by rfl) T.plus.g T.plus.F.kp T.plus.b .nil pass0 (pa_cons (pv 1) (pa_cons (pv 2) pa_nil))))))
      (pss_one (ps_ret (pv 1))))), ?_⟩
      walk_at "go"
      intro a na
      refine ⟨_, rfl, p, rfl, ⟨_, SqT.of (ex_new na _ _ hp)⟩, for_tup (xs := ws) (fun i σ H' => ∃ (b : Addr) (y : Option V), σ = [some (.ref p), some (.ref b), y] ∧ H b = none ∧ Evl.Ex H H' ∧ H' b = some (frV (tot (xs.take i)))) ⟨_, _, rfl, na, ex_new na, upd_same⟩ ?_ ?_ ?_⟩
      · rintro i σ H' hi ⟨b, y, rfl, nb, e, hb⟩
        exact SqT.of (e _ _ hp)
      · rintro i v σ H' hv ⟨b, y, rfl, nb, e, hb⟩
        obtain ⟨r, x, rfl, hxi, hr', sx⟩ := hx.at hv
        walk_at "go"
        have hi : i < xs.length := (List.getElem?_eq_some_iff.mp hxi).1
        have sm := sm_tot (xs.take i) (fun z hz2 => hx.sm z (List.mem_of_mem_take hz2))
        rw [List.length_take] at sm
        refine ⟨b, r, _, _, 640, rfl, hb, e _ _ hr', sm.mono (by omega), sx, by decide, fun r2 H2 nr2 e2 hr2 => ?_⟩
        refine ⟨_, _, rfl, Evl.fresh_back e nr2, e.trans e2, ?_⟩
        rw [tot_step hxi]
        exact hr2
      · rintro σ H' ⟨b, y, rfl, nb, e, hb⟩
        walk_at "go"
        rw [hx.len, List.take_length] at hb
        exact q b H' nb e hb)
  intro A outer s H us vs Q E hr e0 r h
  obtain ⟨xs, hx, hz, q⟩ := h
  refine F A outer s H us vs Q E hr e0 r ⟨[], vs, rfl, rfl, by rw [hx.len]; exact Nat.le_trans hz (by decide), fun p np => ?_⟩
  exact ⟨p, vs, xs, rfl, upd_same, hx.ex (ex_new np), hz, fun r H' nr e hr' => q r H' (Evl.fresh_back (ex_new np) nr) ((ex_new np).trans e) hr'⟩
theorem ok__law_over (T : Txt K mg) : FnG P w K mg base CX0 3 T._law_over.f T._law_over.fd ["_law_one", "_law_other"] spOv := by
  refine okG T._law_over.F sc__law_over (fun vs H Q E h => ?_) (fun cdv A outer s H vs Q E hr gd h => ?_)
  · obtain ⟨p, q, x, y, r, rfl, _⟩ := h
    rfl
  obtain ⟨p, q, x, y, r, rfl, hp, hq, sx, sy, hm, qq⟩ := h
  have nd := sc__law_over.nd
  refine ⟨_, PSs.nox (pss_cons (ps_try_only rfl rfl ⟨rfl, by decide, .inl T.gC⟩ takes0 (fun W pn xe tk _ => (pss_one (ps_set (i := 2) nd rfl (.inl rfl) (pe_callB (cr_reprK K (by exact rfl) (by exact gd) (by exact hr.units)) (by rfl) T.m_repr (by decide +kernel) (pa_cons (pe_callS (ok_over T) (hr.mono (by decide)) (by rfl) T.over.g T.over.F.kp T.over.b (fun σ => passAt tk σ) (pa_cons (pv 0) (pa_cons (pv 1) pa_nil))) pa_nil))))) (fun a oe cls d pn _ _ => (pss_one (ps_set (i := 2) nd rfl (.inl rfl) pe_str))))
      (pss_one (ps_ret (pv 2)))), ?_⟩
  walk_at "go"
  refine ⟨_, _, _, _, rfl, hp, hq, sx, sy, fun z => ?_, fun z => ?_⟩
  · cases hm with
    | zero _ =>
      refine ⟨true, T.eC, fun _ a na => ?_, fun z => nomatch z⟩
      walk_at "go"
      exact qq _ (Evl.Ex.refl _)
    | val h => exact absurd z h
  · cases hm with
    | zero h => exact absurd h z
    | val _ =>
      intro r2 H2 nr e hr2
      have sv := sm_ov sx sy z
      refine ⟨_, _, _, _, rfl, dp_fr hr2, okd_fr sv.t sv.b (by decide) (by decide), by decide, by decide, ?_⟩
      walk_at "go"
      exact qq _ e
end
end K2
namespace K2
open PySem PySem.Spec PyProof.Rows L2 Qj
local macro_rules | `(tactic| walk_at "go") => `(tactic| repeat (first
  | (refine ⟨_, rfl, ?_⟩)
  | (refine ⟨_, _, rfl, rfl, ?_⟩)
  | (refine ⟨_, _, rfl, ?_⟩)
  | (refine ⟨_, _, _, _, rfl, rfl, SqL.of (by assumption), rfl, ?_⟩)
  | (refine ⟨_, _, _, _, rfl, rfl, SqL.of upd_same, rfl, ?_⟩)
  | (refine ⟨_, _, _, _, rfl, rfl, SqT.of (by assumption), rfl, ?_⟩)
  | (refine ⟨_, _, _, _, rfl, rfl, SqT.of upd_same, rfl, ?_⟩)
  | (refine ⟨_, _, _, _, rfl, rfl, (by assumption), rfl, ?_⟩)
  | (refine ⟨_, _, _, _, rfl, rfl, upd_same, rfl, ?_⟩)
  | (refine ⟨_, _, rfl, Or.inl (by assumption), ?_⟩)
  | (refine ⟨_, _, rfl, Or.inr (SqT.of (by assumption)), ?_⟩)
  | (refine ⟨_, _, rfl, Or.inr (SqT.of upd_same), ?_⟩)
  | (refine ⟨_, _, rfl, Or.inl (SqL.of (by assumption)), ?_⟩)
  | (refine ⟨_, _, rfl, SqT.of (by assumption), rfl, ?_⟩)
  | (refine ⟨_, _, rfl, Kn.int _, ?_⟩)
  | (refine ⟨_, _, rfl, (by assumption : Kn _ _ _), ?_⟩)
  | (refine iteNS rfl ?_)
  | (refine iteF ?_)
  | (refine iteT ?_)
  | (refine Or.inl ⟨_, rfl, ?_⟩)
  | (refine Or.inr ⟨_, rfl, ?_⟩)
  | (refine And.intro sz4 ?_)
  | (refine And.intro (by first | exact rfl | assumption | decide | (show (0 : Int) < _; decide) | exact wide_div (b := 63) (by assumption) (by omega) (by decide) (by decide) | exact wide_div (b := 63) (by decide) (by decide) (by decide) (by decide) | exact Or.inl ⟨by decide, by decide⟩ | exact Or.inr ⟨by decide, by decide⟩ | exact ⟨by decide, by decide, by decide⟩ | exact Or.inl ⟨by omega, by omega⟩ | exact Or.inr ⟨by omega, by omega⟩) ?_)))

def spRt : Sp := fun vs H Q _ => ∃ (p q : Addr) (x y : Int × Int), vs = [.ref p, .ref q] ∧ H p = some (frV x) ∧ H q = some (frV y) ∧ Sm 62 x ∧ Sm 62 y ∧ Nat.gcd y.1.natAbs y.2.natAbs = 1 ∧ ∀ H', Evl.Ex H H' → Q (.bl true) H'
def allD (x y : Int × Int) : PyData := .list [frD (pl x y), frD (mi x y), frD (ti x y), .int (cmpV x y), .int (x.1 / x.2), frD (x.1 % x.2, x.2)]
theorem cmp_lt (x y : Int × Int) : (cmpV x y).natAbs < 2 ^ 2 := by
  unfold cmpV
  split
  · decide
  · split <;> decide
theorem okd_all {x y : Int × Int} (sx : Sm 62 x) (sy : Sm 62 y) : Okd (allD x y) 2000 5 := by
  have s1 := sm_pl sx sy
  have s2 := sm_mi sx sy
  have s3 := sm_ti sx sy
  have f : (x.1 / x.2).natAbs < 2 ^ 62 := Nat.lt_of_le_of_lt (Int.natAbs_ediv_le_natAbs _ _) sx.t
  have r : (x.1 % x.2).natAbs < 2 ^ 62 := by
    have a := Int.emod_nonneg x.1 (Int.ne_of_gt sx.p)
    have b := Int.emod_lt_of_pos x.1 sx.p
    have c := sx.b
    omega
  exact (okd_lst (oka_cons (okd_fr s1.t s1.b (by decide) (by decide)) (oka_cons (okd_fr s2.t s2.b (by decide) (by decide)) (oka_cons (okd_fr s3.t s3.b (by decide) (by decide)) (oka_cons (okd_int (cmp_lt x y) (by decide) (by decide)) (oka_cons (okd_int f (by decide) (by decide)) (oka_cons (okd_fr (x := (x.1 % x.2, x.2)) r sx.b (by decide) (by decide)) oka_nil))))))).mono (by decide) (by decide)
theorem dp_all {K : PySem.W.Frag} {H : Hp} {l r1 r2 r3 r4 : Addr} {c f : Int} {x y : Int × Int} (hl : H l = some (.lst [.ref r1, .ref r2, .ref r3, .int c, .int f, .ref r4])) (h1 : H r1 = some (frV (pl x y))) (h2 : H r2 = some (frV (mi x y))) (h3 : H r3 = some (frV (ti x y)))
    (hc : c = cmpV x y) (hf : f = x.1 / x.2) (h4 : H r4 = some (frV (x.1 % x.2, x.2))) : Dp K H (.ref l) (allD x y) := by
  subst hc hf
  exact .lst (SqL.of hl) (.cons (dp_fr h1) (.cons (dp_fr h2) (.cons (dp_fr h3) (.cons (.int _) (.cons (.int _) (.cons (dp_fr h4) .nil))))))
section
variable {P : Program} {w : World} {K : PySem.W.Frag} {mg : Str → Option Value} {base : Heap}
theorem ok__law_right (T : Txt K mg) : FnG P w K mg base CX0 4 T._law_right.f T._law_right.fd ["_law_one", "_law_other"] spRt := by
  refine okG T._law_right.F sc__law_right (fun vs H Q E h => ?_) (fun cdv A outer s H vs Q E hr gd h => ?_)
  · obtain ⟨p, q, x, y, rfl, _⟩ := h
    rfl
  obtain ⟨p, q, x, y, rfl, hp, hq, sx, sy, gy, qq⟩ := h
  have nd := sc__law_right.nd
  have xb := sx.b
  have xp := sx.p
  have yb := sy.b
  have yt := sy.t
  refine ⟨_, PSs.nox (pss_cons (ps_set (i := 2) nd rfl (.inl rfl) (pe_lst (pa_cons (pe_call (ok_plus T) (hr.mono (by decide)) (by rfl) T.plus.g T.plus.F.kp T.plus.b .nil pass0 (pa_cons (pv 0) (pa_cons (pv 1) pa_nil))) (pa_cons (pe_call (ok_minus T) (hr.mono (by decide)) (by rfl) T.minus.g T.minus.F.kp T.minus.b .nil pass0 (pa_cons (pv 0) (pa_cons (pv 1) pa_nil))) (pa_cons (pe_call (ok_times T) (hr.mono (by decide)) (by rfl) T.times.g T.times.F.kp T.times.b .nil pass0 (pa_cons (pv 0) (pa_cons (pv 1) pa_nil))) (pa_cons (pe_call (ok_compare T) (hr.mono (by decide)) (by rfl) T.compare.g T.compare.F.kp T.compare.b .nil pass0 (pa_cons (pv 0) (pa_cons (pv 1) pa_nil))) (pa_cons (pe_call (ok_floor_of T) (hr.mono (by decide)) (by rfl) T.floor_of.g T.floor_of.F.kp T.floor_of.b .nil pass0 (pa_cons (pv 0) pa_nil)) (pa_cons (pe_call (ok_part_of T) (hr.mono (by decide)) (by rfl) T.part_of.g T.part_of.F.kp T.part_of.b .nil pass0 (pa_cons (pv 0) pa_nil)) pa_nil))))))))
      (pss_cons (ps_set (i := 3) nd rfl (.inl rfl) (pe_op op_sub (pe_op op_mul (pe_ix ix_tup (pv 0) pe_int (fun _ _ => rfl)) (pe_ix ix_tup (pv 1) pe_int (fun _ _ => rfl))) (pe_op op_mul (pe_ix ix_tup (pv 1) pe_int (fun _ _ => rfl)) (pe_ix ix_tup (pv 0) pe_int (fun _ _ => rfl)))))
      (pss_cons (ps_set (i := 4) nd rfl (.inl rfl) (pe_lst (pa_cons (pe_call (ok__law_plus T) (hr.mono (by decide)) (by rfl) T._law_plus.g T._law_plus.F.kp T._law_plus.b .nil pass0 (pa_cons (pv 0) (pa_cons (pv 1) pa_nil))) (pa_cons (pe_call (ok__law_minus T) (hr.mono (by decide)) (by rfl) T._law_minus.g T._law_minus.F.kp T._law_minus.b .nil pass0 (pa_cons (pv 0) (pa_cons (pv 1) pa_nil))) (pa_cons (pe_call (ok__law_times T) (hr.mono (by decide)) (by rfl) T._law_times.g T._law_times.F.kp T._law_times.b .nil pass0 (pa_cons (pv 0) (pa_cons (pv 1) pa_nil))) pa_nil)))))
      (pss_cons (ps_set (i := 4) nd rfl (.inl rfl) (pe_op op_cat (pv 4) (pe_lst (pa_cons (pe_op op_sub (pe_callTy call_int1 (by rfl) T.m_int boot_int (pa_cons (pe_cmpR op_gt (pv 3) pe_int (nomark _)) pa_nil)) (pe_callTy call_int1 (by rfl) T.m_int boot_int (pa_cons (pe_cmpR op_lt (pv 3) pe_int (nomark _)) pa_nil))) (pa_cons (pe_op op_fdivW (pe_ix ix_tup (pv 0) pe_int (fun _ _ => rfl)) (pe_ix ix_tup (pv 0) pe_int (fun _ _ => rfl))) (pa_cons (pe_call (ok__law_part T) (hr.mono (by decide)) (by rfl) T._law_part.g T._law_part.F.kp T._law_part.b .nil pass0 (pa_cons (pv 0) pa_nil)) pa_nil))))))
      (pss_cons (ps_if (pt_cmpR op_ne (pe_callB (cr_reprK K (by exact rfl) (by exact gd) (by exact hr.units)) (by rfl) T.m_repr (by decide +kernel) (pa_cons (pv 2) pa_nil)) (pe_callB (cr_reprK K (by exact rfl) (by exact gd) (by exact hr.units)) (by rfl) T.m_repr (by decide +kernel) (pa_cons (pv 4) pa_nil)) (nomark _))
        (pss_one (ps_ret pe_bl))
        pss_nil)
      (pss_cons (ps_if (pt_cmpR op_eq (pe_ix ix_tup (pv 1) pe_int (fun _ _ => rfl)) pe_int (nomark _))
        (pss_one (ps_ret (pe_cmpR op_eq (pe_callG (ok__law_over T) (hr.mono (by decide)) gd (by rfl) T._law_over.g T._law_over.F.kp T._law_over.b .nil pass0 (pa_cons (pv 0) (pa_cons (pv 1) pa_nil))) pe_str (nomark _))))
        pss_nil)
      (pss_one (ps_ret (pe_cmpR op_eq (pe_callG (ok__law_over T) (hr.mono (by decide)) gd (by rfl) T._law_over.g T._law_over.F.kp T._law_over.b .nil pass0 (pa_cons (pv 0) (pa_cons (pv 1) pa_nil))) (pe_callB (cr_reprK K (by exact rfl) (by exact gd) (by exact hr.units)) (by rfl) T.m_repr (by decide +kernel) (pa_cons (pe_call (ok__law_times T) (hr.mono (by decide)) (by rfl) T._law_times.g T._law_times.F.kp T._law_times.b .nil pass0 (pa_cons (pv 0) (pa_cons (pe_call (ok__law_frac T) (hr.mono (by decide)) (by rfl) T._law_frac.g T._law_frac.F.kp T._law_frac.b .nil pass0 (pa_cons (pe_ix ix_tup (pv 1) pe_int (fun _ _ => rfl)) (pa_cons (pe_ix ix_tup (pv 1) pe_int (fun _ _ => rfl)) pa_nil))) pa_nil))) pa_nil)) (nomark _)))))))))), ?_⟩
  walk_at "go"
  refine ⟨p, q, x, y, 62, rfl, hp, hq, sx, sy, by decide, fun r1 H1 n1 e1 h1 => ?_⟩
  have hp1 := e1 _ _ hp
  have hq1 := e1 _ _ hq
  walk_at "go"
  refine ⟨p, q, x, y, 62, rfl, hp1, hq1, sx, sy, by decide, fun r2 H2 n2 e2 h2 => ?_⟩
  have hp2 := e2 _ _ hp1
  have hq2 := e2 _ _ hq1
  walk_at "go"
  refine ⟨p, q, x, y, 62, rfl, hp2, hq2, sx, sy, by decide, fun r3 H3 n3 e3 h3 => ?_⟩
  have hp3 := e3 _ _ hp2
  have hq3 := e3 _ _ hq2
  walk_at "go"
  refine ⟨p, q, x, y, rfl, hp3, hq3, sx, sy, ?_⟩
  walk_at "go"
  refine ⟨p, x, rfl, hp3, sx, ?_⟩
  walk_at "go"
  refine ⟨p, x, rfl, hp3, sx, fun r4 H4 n4 e4 h4 => ?_⟩
  have hp4 := e4 _ _ hp3
  have hq4 := e4 _ _ hq3
  walk_at "go"
  intro l1 m1
  have e5 := ex_new (o := .lst [.ref r1, .ref r2, .ref r3, .int (cmpV x y), .int (x.1 / x.2), .ref r4]) m1
  have hp5 : _ = some (HO.tup [.int x.1, .int x.2]) := e5 _ _ hp4
  have hq5 : _ = some (HO.tup [.int y.1, .int y.2]) := e5 _ _ hq4
  walk_at "go"
  refine ⟨p, q, x, y, 62, rfl, hp5, hq5, sx, sy, by decide, fun r6 H6 n6 e6 h6 => ?_⟩
  have hp6 := e6 _ _ hp5
  have hq6 := e6 _ _ hq5
  walk_at "go"
  refine ⟨p, q, x, y, 62, rfl, hp6, hq6, sx, sy, by decide, fun r7 H7 n7 e7 h7 => ?_⟩
  have hp7 := e7 _ _ hp6
  have hq7 := e7 _ _ hq6
  walk_at "go"
  refine ⟨p, q, x, y, 62, rfl, hp7, hq7, sx, sy, by decide, fun r8 H8 n8 e8 h8 => ?_⟩
  have hp8 := e8 _ _ hp7
  have hq8 := e8 _ _ hq7
  walk_at "go"
  intro l2 m2
  have e9 := ex_new (o := .lst [.ref r6, .ref r7, .ref r8]) m2
  have hp9 := e9 _ _ hp8
  have hq9 := e9 _ _ hq8
  walk_at "go"
  refine ⟨p, x, rfl, hp9, sx, fun r10 H10 n10 e10 h10 => ?_⟩
  have hp10 := e10 _ _ hp9
  have hq10 := e10 _ _ hq9
  walk_at "go"
  intro l3 m3
  have e11 := fun o => ex_new (o := o) m3
  refine ⟨_, _, _, _, rfl, rfl, e11 _ _ _ (e10 _ _ upd_same), upd_same, sz4, fun l4 m4 => ?_⟩
  have e12 := fun o => ex_new (o := o) m4
  have f12 : ∀ o o2, Evl.Ex H10 (upd (upd H10 l3 o) l4 o2) := fun o o2 => (ex_new m3).trans (ex_new (by
    have z := m4
    unfold upd at z ⊢
    split at z
    · cases z
    · rename_i c
      rw [if_neg c]
      exact z))
  walk_at "go"
  have c10 := e6.trans (e7.trans (e8.trans (e9.trans e10)))
  have c4 := e5.trans c10
  have c3 := e4.trans c4
  have c2 := e3.trans c3
  have c1 := e2.trans c2
  refine ⟨_, allD x y, _, _, rfl, dp_all (f12 _ _ _ _ (c10 _ _ upd_same)) (f12 _ _ _ _ (c1 _ _ h1)) (f12 _ _ _ _ (c2 _ _ h2)) (f12 _ _ _ _ (c3 _ _ h3)) rfl rfl (f12 _ _ _ _ (c4 _ _ h4)), okd_all sx sy, by decide, by decide, ?_⟩
  walk_at "go"
  refine ⟨_, allD x y, _, _, rfl, dp_all upd_same (f12 _ _ _ _ (e10 _ _ (e9 _ _ (e8 _ _ (e7 _ _ h6))))) (f12 _ _ _ _ (e10 _ _ (e9 _ _ (e8 _ _ h7)))) (f12 _ _ _ _ (e10 _ _ (e9 _ _ h8))) (cmp_eq x y) rfl (f12 _ _ _ _ h10), okd_all sx sy, by decide, by decide, ?_⟩
  have hp12 := fun o o2 => f12 o o2 _ _ hp10
  have hq12 : ∀ o o2, _ = some (HO.tup [.int y.1, .int y.2]) := fun o o2 => f12 o o2 _ _ hq10
  walk_at "go"
  refine ⟨_, _, _, _, rfl, rfl, SqT.of (hq12 _ _), rfl, ?_⟩
  walk_at "go"
  refine ite2 (fun z => ?_) (fun z => ?_)
  · walk_at "go"
    refine ⟨p, q, x, y, refused, rfl, hp12 _ _, hq12 _ _, sx, sy, .zero (eq_of_test z), fun H13 e13 => ?_⟩
    walk_at "go"
    refine (show Q (.bl (decide (V.str refused = V.str refused))) H13 from ?_)
    rw [decide_eq_true rfl]
    exact qq _ (e1.trans (c1.trans ((f12 _ _).trans e13)))
  · have y0 := eq_of_test' z
    walk_at "go"
    refine ⟨p, q, x, y, _, rfl, hp12 _ _, hq12 _ _, sx, sy, .val y0, fun H13 e13 => ?_⟩
    have hp13 : _ = some (HO.tup [.int x.1, .int x.2]) := e13 _ _ (hp12 _ _)
    have hq13 : _ = some (HO.tup [.int y.1, .int y.2]) := e13 _ _ (hq12 _ _)
    walk_at "go"
    refine ⟨pow_up sy.b (by decide), pow_up sy.t (by decide), fun r14 H14 n14 e14 h14 => ?_⟩
    walk_at "go"
    refine ⟨p, r14, x, _, 62, rfl, e14 _ _ hp13, h14, sx, sm_fr y0 sy.b sy.t, by decide, fun r15 H15 n15 e15 h15 => ?_⟩
    rw [ov_ti sx y0 gy] at h15
    have so := sm_ov sx sy y0
    refine ⟨_, _, _, _, rfl, dp_fr h15, okd_fr so.t so.b (by decide) (by decide), by decide, by decide, ?_⟩
    walk_at "go"
    refine (show Q (.bl (decide (V.str (frD (ov x y)).shown = V.str (frD (ov x y)).shown))) H15 from ?_)
    rw [decide_eq_true rfl]
    exact qq _ (e1.trans (c1.trans ((f12 _ _).trans (e13.trans (e14.trans e15)))))
end
end K2
namespace K2
open PySem PySem.Spec PyProof.Rows L2 Qj
local macro_rules | `(tactic| walk_at "go") => `(tactic| repeat (first
  | (refine ⟨_, rfl, ?_⟩)
  | (refine ⟨_, _, rfl, rfl, ?_⟩)
  | (refine ⟨_, _, rfl, ?_⟩)
  | (refine ⟨_, _, _, _, rfl, rfl, SqL.of (by assumption), rfl, ?_⟩)
  | (refine ⟨_, _, _, _, rfl, rfl, SqL.of upd_same, rfl, ?_⟩)
  | (refine ⟨_, _, _, _, rfl, rfl, SqT.of (by assumption), rfl, ?_⟩)
  | (refine ⟨_, _, _, _, rfl, rfl, SqT.of upd_same, rfl, ?_⟩)
  | (refine ⟨_, _, _, _, rfl, rfl, (by assumption), rfl, ?_⟩)
  | (refine ⟨_, _, _, _, rfl, rfl, upd_same, rfl, ?_⟩)
  | (refine ⟨_, _, rfl, Or.inl (by assumption), ?_⟩)
  | (refine ⟨_, _, rfl, Or.inr (SqT.of (by assumption)), ?_⟩)
  | (refine ⟨_, _, rfl, Or.inr (SqT.of upd_same), ?_⟩)
  | (refine ⟨_, _, rfl, Or.inl (SqL.of (by assumption)), ?_⟩)
  | (refine ⟨_, _, rfl, SqT.of (by assumption), rfl, ?_⟩)
  | (refine ⟨_, _, rfl, Kn.int _, ?_⟩)
  | (refine ⟨_, _, rfl, (by assumption : Kn _ _ _), ?_⟩)
  | (refine iteNS rfl ?_)
  | (refine iteF ?_)
  | (refine iteT ?_)
  | (refine Or.inl ⟨_, rfl, ?_⟩)
  | (refine Or.inr ⟨_, rfl, ?_⟩)
  | (refine And.intro sz4 ?_)
  | (refine And.intro (by first | exact rfl | assumption | decide | (show (0 : Int) < _; decide) | exact wide_div (b := 63) (by assumption) (by omega) (by decide) (by decide) | exact wide_div (b := 63) (by decide) (by decide) (by decide) (by decide) | exact Or.inl ⟨by decide, by decide⟩ | exact Or.inr ⟨by decide, by decide⟩ | exact ⟨by decide, by decide, by decide⟩ | exact Or.inl ⟨by omega, by omega⟩ | exact Or.inr ⟨by omega, by omega⟩) ?_)))

def spTR : Sp := fun vs H Q _ => ∃ (S : Addr) (ws : List V) (xs : List (Int × Int)), vs = [.ref S] ∧ H S = some (.lst ws) ∧ FrL H ws xs ∧ xs.length ≤ 6 ∧ ∀ H', Q (.bl true) H'
theorem okd_tot {xs : List (Int × Int)} (h : ∀ x ∈ xs, Sm 62 x) (hl : xs.length ≤ 10) : Okd (frD (tot xs)) 2000 5 := by
  have s := (sm_tot xs h).mono (show 1 + 63 * xs.length ≤ 640 by omega)
  exact (okd_fr s.t s.b (by decide) (by decide)).mono (by decide) (by decide)
section
variable {P : Program} {w : World} {K : PySem.W.Frag} {mg : Str → Option Value} {base : Heap}
theorem ok__law_total_right (T : Txt K mg) : FnG P w K mg base CX0 4 T._law_total_right.f T._law_total_right.fd ["_law_some"] spTR := by
  refine okG T._law_total_right.F sc__law_total_right (fun vs H Q E h => ?_) (fun cdv A outer s H vs Q E hr gd h => ?_)
  · obtain ⟨S, ws, xs, rfl, _⟩ := h
    rfl
  obtain ⟨S, ws, xs, rfl, hS, hx, hl, qq⟩ := h
  have nd := sc__law_total_right.nd
  refine ⟨_, PSs.nox (pss_cons (ps_set (i := 1) nd rfl (.inl rfl) (pe_tup (pa_cons pe_int (pa_cons pe_int pa_nil))))
      (pss_cons (ps_for PassesOwn.never rfl (pi_list (pv 0)) (pg_name (i := 2) nd rfl (.inl rfl))
        (pss_one (ps_set (i := 1) nd rfl (.inl rfl) (pe_call (ok__law_plus T) (hr.mono (by decide)) (by rfl) T._law_plus.g T._law_plus.F.kp T._law_plus.b .nil pass0 (pa_cons (pv 1) (pa_cons (pv 2) pa_nil))))))
      (pss_cons (ps_if (pt_cmpR op_eq (pe_callB call_len_seq (by rfl) T.m_len (by decide +kernel) (pa_cons (pv 0) pa_nil)) pe_int (nomark _))
        (pss_one (ps_ret (pe_cmpR op_eq (pe_callB (cr_reprK K (by exact rfl) (by exact gd) (by exact hr.units)) (by rfl) T.m_repr (by decide +kernel) (pa_cons (pe_callR0 (ok_total T) (hr.mono (by decide)) (by rfl) T.tG T.tK pass0) pa_nil)) (pe_callB (cr_reprK K (by exact rfl) (by exact gd) (by exact hr.units)) (by rfl) T.m_repr (by decide +kernel) (pa_cons (pv 1) pa_nil)) (nomark _))))
        pss_nil)
      (pss_cons (ps_if (pt_cmpR op_eq (pe_callB call_len_seq (by rfl) T.m_len (by decide +kernel) (pa_cons (pv 0) pa_nil)) pe_int (nomark _))
        (pss_one (ps_ret (pe_cmpR op_eq (pe_callB (cr_reprK K (by exact rfl) (by exact gd) (by exact hr.units)) (by rfl) T.m_repr (by decide +kernel) (pa_cons (pe_callR (ok_total T) (hr.mono (by decide)) (by rfl) T.tG T.tK pass0 (pa_cons (pe_ix ix_list (pv 0) pe_int (fun _ _ => rfl)) pa_nil)) pa_nil)) (pe_callB (cr_reprK K (by exact rfl) (by exact gd) (by exact hr.units)) (by rfl) T.m_repr (by decide +kernel) (pa_cons (pv 1) pa_nil)) (nomark _))))
        pss_nil)
      (pss_cons (ps_if (pt_cmpR op_lt (pe_callB call_len_seq (by rfl) T.m_len (by decide +kernel) (pa_cons (pv 0) pa_nil)) pe_int (nomark _))
        (pss_cons (ps_set (i := 3) nd rfl (.inl rfl) (pe_callR (ok_total T) (hr.mono (by decide)) (by rfl) T.tG T.tK pass0 (pa_cons (pe_ix ix_list (pv 0) pe_int (fun _ _ => rfl)) (pa_cons (pe_ix ix_list (pv 0) pe_int (fun _ _ => rfl)) pa_nil))))
        (pss_cons (ps_if (pt_cmpR op_eq (pe_callB call_len_seq (by rfl) T.m_len (by decide +kernel) (pa_cons (pv 0) pa_nil)) pe_int (nomark _))
          (pss_one (ps_set (i := 3) nd rfl (.inl rfl) (pe_callR (ok_total T) (hr.mono (by decide)) (by rfl) T.tG T.tK pass0 (pa_cons (pe_ix ix_list (pv 0) pe_int (fun _ _ => rfl)) (pa_cons (pe_ix ix_list (pv 0) pe_int (fun _ _ => rfl)) (pa_cons (pe_ix ix_list (pv 0) pe_int (fun _ _ => rfl)) pa_nil))))))
          pss_nil)
        (pss_cons (ps_if (pt_cmpR op_eq (pe_callB call_len_seq (by rfl) T.m_len (by decide +kernel) (pa_cons (pv 0) pa_nil)) pe_int (nomark _))
          (pss_one (ps_set (i := 3) nd rfl (.inl rfl) (pe_callR (ok_total T) (hr.mono (by decide)) (by rfl) T.tG T.tK pass0 (pa_cons (pe_ix ix_list (pv 0) pe_int (fun _ _ => rfl)) (pa_cons (pe_ix ix_list (pv 0) pe_int (fun _ _ => rfl)) (pa_cons (pe_ix ix_list (pv 0) pe_int (fun _ _ => rfl)) (pa_cons (pe_ix ix_list (pv 0) pe_int (fun _ _ => rfl)) pa_nil)))))))
          pss_nil)
        (pss_cons (ps_if (pt_cmpR op_eq (pe_callB call_len_seq (by rfl) T.m_len (by decide +kernel) (pa_cons (pv 0) pa_nil)) pe_int (nomark _))
          (pss_one (ps_set (i := 3) nd rfl (.inl rfl) (pe_callR (ok_total T) (hr.mono (by decide)) (by rfl) T.tG T.tK pass0 (pa_cons (pe_ix ix_list (pv 0) pe_int (fun _ _ => rfl)) (pa_cons (pe_ix ix_list (pv 0) pe_int (fun _ _ => rfl)) (pa_cons (pe_ix ix_list (pv 0) pe_int (fun _ _ => rfl)) (pa_cons (pe_ix ix_list (pv 0) pe_int (fun _ _ => rfl)) (pa_cons (pe_ix ix_list (pv 0) pe_int (fun _ _ => rfl)) pa_nil))))))))
          pss_nil)
        (pss_one (ps_ret (pe_cmpR op_eq (pe_callB (cr_reprK K (by exact rfl) (by exact gd) (by exact hr.units)) (by rfl) T.m_repr (by decide +kernel) (pa_cons (pv 3) pa_nil)) (pe_callB (cr_reprK K (by exact rfl) (by exact gd) (by exact hr.units)) (by rfl) T.m_repr (by decide +kernel) (pa_cons (pv 1) pa_nil)) (nomark _))))))))
        pss_nil)
      (pss_cons (ps_set (i := 1) nd rfl (.inl rfl) (pe_tup (pa_cons pe_int (pa_cons pe_int pa_nil))))
      (pss_cons (ps_for PassesOwn.never rfl (pi_list (pe_op op_cat (pe_op op_cat (pe_slice sl_list (pv 0) po_none (po_some pe_int)) (pe_slice sl_list (pv 0) po_none (po_some pe_int))) (pe_slice sl_list (pv 0) (po_some pe_int) (po_some pe_int)))) (pg_name (i := 2) nd rfl (.inl rfl))
        (pss_one (ps_set (i := 1) nd rfl (.inl rfl) (pe_call (ok__law_plus T) (hr.mono (by decide)) (by rfl) T._law_plus.g T._law_plus.F.kp T._law_plus.b .nil pass0 (pa_cons (pv 1) (pa_cons (pv 2) pa_nil))))))
      (pss_one (ps_ret (pe_cmpR op_eq (pe_callB (cr_reprK K (by exact rfl) (by exact gd) (by exact hr.units)) (by rfl) T.m_repr (by decide +kernel) (pa_cons (pe_callR (ok_total T) (hr.mono (by decide)) (by rfl) T.tG T.tK pass0 (pa_cons (pe_ix ix_list (pv 0) pe_int (fun _ _ => rfl)) (pa_cons (pe_ix ix_list (pv 0) pe_int (fun _ _ => rfl)) (pa_cons (pe_ix ix_list (pv 0) pe_int (fun _ _ => rfl)) (pa_cons (pe_ix ix_list (pv 0) pe_int (fun _ _ => rfl)) (pa_cons (pe_ix ix_list (pv 0) pe_int (fun _ _ => rfl)) (pa_cons (pe_ix ix_list (pv 0) pe_int (fun _ _ => rfl)) (pa_cons (pe_ix ix_list (pv 0) pe_int (fun _ _ => rfl)) (pa_cons (pe_ix ix_list (pv 0) pe_int (fun _ _ => rfl)) pa_nil))))))))) pa_nil)) (pe_callB (cr_reprK K (by exact rfl) (by exact gd) (by exact hr.units)) (by rfl) T.m_repr (by decide +kernel) (pa_cons (pv 1) pa_nil)) (nomark _))))))))))), ?_⟩
  walk_at "go"
  intro a na
  refine ⟨_, rfl, S, rfl, ⟨_, SqL.of (ex_new na _ _ hS)⟩, for_list (xs := ws) (fun i σ H' => ∃ (b : Addr) (y : Option V), σ = [some (.ref S), some (.ref b), y, none] ∧ Evl.Ex H H' ∧ H' b = some (frV (tot (xs.take i)))) ⟨_, _, rfl, ex_new na, upd_same⟩ ?_ ?_ ?_⟩
  · rintro i σ H' hi ⟨b, y, rfl, e, hb⟩
    exact SqL.of (e _ _ hS)
  · rintro i v σ H' hv ⟨b, y, rfl, e, hb⟩
    obtain ⟨r, x, rfl, hxi, hr', sx⟩ := hx.at hv
    walk_at "go"
    have hi : i < xs.length := (List.getElem?_eq_some_iff.mp hxi).1
    have sm := sm_tot (xs.take i) (fun z hz2 => hx.sm z (List.mem_of_mem_take hz2))
    rw [List.length_take] at sm
    refine ⟨b, r, _, _, 640, rfl, hb, e _ _ hr', sm.mono (by omega), sx, by decide, fun r2 H2 nr2 e2 hr2 => ?_⟩
    refine ⟨_, _, rfl, e.trans e2, ?_⟩
    rw [tot_step hxi]
    exact hr2
  · rintro σ H' ⟨b, y, rfl, e, hb⟩
    rw [hx.len, List.take_length] at hb
    have oT := okd_tot hx.sm (by omega)
    have hS' := e _ _ hS
    have hx' := hx.ex e
    have fin : ∀ {H2 : Hp}, Q (.bl (decide (V.str (frD (tot xs)).shown = V.str (frD (tot xs)).shown))) H2 := by
      intro H2
      rw [decide_eq_true rfl]
      exact qq _
    clear hx hS
    cases hx' with
    | nil =>
      walk_at "go"
      refine ⟨[], .nil, Nat.le_of_ble_eq_true rfl, fun r H2 nr e2 hr2 => ?_⟩
      refine ⟨_, frD (tot _), _, _, rfl, dp_fr hr2, oT, by decide, by decide, ?_⟩
      walk_at "go"
      refine ⟨_, frD (tot _), _, _, rfl, dp_fr (e2 _ _ hb), oT, by decide, by decide, ?_⟩
      walk_at "go"
      exact fin
    | @cons p0 x0 ws0 xs0 h0 s0 t0 =>
      cases t0 with
      | nil =>
        walk_at "go"
        refine ⟨[x0], (.cons h0 s0 .nil), Nat.le_of_ble_eq_true rfl, fun r H2 nr e2 hr2 => ?_⟩
        refine ⟨_, frD (tot _), _, _, rfl, dp_fr hr2, oT, by decide, by decide, ?_⟩
        walk_at "go"
        refine ⟨_, frD (tot _), _, _, rfl, dp_fr (e2 _ _ hb), oT, by decide, by decide, ?_⟩
        walk_at "go"
        exact fin
      | @cons p1 x1 ws1 xs1 h1 s1 t1 =>
        cases t1 with
        | nil =>
          walk_at "go"
          refine ⟨[x0, x1], (.cons h0 s0 (.cons h1 s1 .nil)), Nat.le_of_ble_eq_true rfl, fun r H2 nr e2 hr2 => ?_⟩
          have hS2 := e2 _ _ hS'
          have g0 := e2 _ _ h0
          have g1 := e2 _ _ h1
          walk_at "go"
          refine ⟨_, frD (tot _), _, _, rfl, dp_fr hr2, oT, by decide, by decide, ?_⟩
          walk_at "go"
          refine ⟨_, frD (tot _), _, _, rfl, dp_fr (e2 _ _ hb), oT, by decide, by decide, ?_⟩
          walk_at "go"
          exact fin
        | @cons p2 x2 ws2 xs2 h2 s2 t2 =>
          cases t2 with
          | nil =>
            walk_at "go"
            refine ⟨[x0, x1], (.cons h0 s0 (.cons h1 s1 .nil)), Nat.le_of_ble_eq_true rfl, fun r H2 nr e2 hr2 => ?_⟩
            have hS2 := e2 _ _ hS'
            have g0 := e2 _ _ h0
            have g1 := e2 _ _ h1
            have g2 := e2 _ _ h2
            walk_at "go"
            refine ⟨[x0, x1, x2], (.cons g0 s0 (.cons g1 s1 (.cons g2 s2 .nil))), Nat.le_of_ble_eq_true rfl, fun r3 H3 nr3 e3 hr3 => ?_⟩
            have hS3 := e3 _ _ hS2
            walk_at "go"
            refine ⟨_, frD (tot _), _, _, rfl, dp_fr hr3, oT, by decide, by decide, ?_⟩
            walk_at "go"
            refine ⟨_, frD (tot _), _, _, rfl, dp_fr (e3 _ _ (e2 _ _ hb)), oT, by decide, by decide, ?_⟩
            walk_at "go"
            exact fin
          | @cons p3 x3 ws3 xs3 h3 s3 t3 =>
            cases t3 with
            | nil =>
              walk_at "go"
              refine ⟨[x0, x1], (.cons h0 s0 (.cons h1 s1 .nil)), Nat.le_of_ble_eq_true rfl, fun r H2 nr e2 hr2 => ?_⟩
              have hS2 := e2 _ _ hS'
              have g0 := e2 _ _ h0
              have g1 := e2 _ _ h1
              have g2 := e2 _ _ h2
              have g3 := e2 _ _ h3
              walk_at "go"
              refine ⟨[x0, x1, x2, x3], (.cons g0 s0 (.cons g1 s1 (.cons g2 s2 (.cons g3 s3 .nil)))), Nat.le_of_ble_eq_true rfl, fun r3 H3 nr3 e3 hr3 => ?_⟩
              have hS3 := e3 _ _ hS2
              walk_at "go"
              refine ⟨_, frD (tot _), _, _, rfl, dp_fr hr3, oT, by decide, by decide, ?_⟩
              walk_at "go"
              refine ⟨_, frD (tot _), _, _, rfl, dp_fr (e3 _ _ (e2 _ _ hb)), oT, by decide, by decide, ?_⟩
              walk_at "go"
              exact fin
            | @cons p4 x4 ws4 xs4 h4 s4 t4 =>
              cases t4 with
              | nil =>
                walk_at "go"
                refine ⟨[x0, x1], (.cons h0 s0 (.cons h1 s1 .nil)), Nat.le_of_ble_eq_true rfl, fun r H2 nr e2 hr2 => ?_⟩
                have hS2 := e2 _ _ hS'
                have g0 := e2 _ _ h0
                have g1 := e2 _ _ h1
                have g2 := e2 _ _ h2
                have g3 := e2 _ _ h3
                have g4 := e2 _ _ h4
                walk_at "go"
                refine ⟨[x0, x1, x2, x3, x4], (.cons g0 s0 (.cons g1 s1 (.cons g2 s2 (.cons g3 s3 (.cons g4 s4 .nil))))), Nat.le_of_ble_eq_true rfl, fun r3 H3 nr3 e3 hr3 => ?_⟩
                have hS3 := e3 _ _ hS2
                walk_at "go"
                refine ⟨_, frD (tot _), _, _, rfl, dp_fr hr3, oT, by decide, by decide, ?_⟩
                walk_at "go"
                refine ⟨_, frD (tot _), _, _, rfl, dp_fr (e3 _ _ (e2 _ _ hb)), oT, by decide, by decide, ?_⟩
                walk_at "go"
                exact fin
              | @cons p5 x5 ws5 xs5 h5 s5 t5 =>
                cases t5 with
                | nil =>
                  walk_at "go"
                  intro a2 na2
                  have z1 := ex_new (o := frV (0, 1)) na2
                  walk_at "go"
                  refine ⟨S, _, rfl, SqL.of (z1 _ _ hS'), fun c1 n1 => ?_⟩
                  have z2 := fun o => z1.trans (ex_new (o := o) n1)
                  walk_at "go"
                  refine ⟨S, _, rfl, SqL.of (z2 _ _ _ hS'), fun c2 n2 => ?_⟩
                  have y2 := fun o => ex_new (o := o) n2
                  refine ⟨_, _, _, _, rfl, rfl, y2 _ _ _ upd_same, upd_same, sz4, fun c3 n3 => ?_⟩
                  have y3 := fun o => ex_new (o := o) n3
                  walk_at "go"
                  have hS3 := y3 (.lst (cutV [.ref p0, .ref p1, .ref p2, .ref p3, .ref p4, .ref p5] none (some 6) ++ cutV [.ref p0, .ref p1, .ref p2, .ref p3, .ref p4, .ref p5] none (some 1))) _ _ (y2 _ _ _ (z2 _ _ _ hS'))
                  refine ⟨S, _, rfl, SqL.of hS3, fun c4 n4 => ?_⟩
                  have y4 := fun o => ex_new (o := o) n4
                  refine ⟨_, _, _, _, rfl, rfl, y4 _ _ _ upd_same, upd_same, sz4, fun c5 n5 => ?_⟩
                  have y5 := fun o => ex_new (o := o) n5
                  have hx8 : FrL H' [.ref p0, .ref p1, .ref p2, .ref p3, .ref p4, .ref p5, .ref p0, .ref p1] [x0, x1, x2, x3, x4, x5, x0, x1] := (.cons h0 s0 (.cons h1 s1 (.cons h2 s2 (.cons h3 s3 (.cons h4 s4 (.cons h5 s5 (.cons h0 s0 (.cons h1 s1 .nil))))))))
                  refine ⟨c5, rfl, ⟨_, SqL.of upd_same⟩, for_list (xs := [.ref p0, .ref p1, .ref p2, .ref p3, .ref p4, .ref p5, .ref p0, .ref p1]) (fun i σ G => ∃ (b : Addr) (y : Option V), σ = [some (.ref S), some (.ref b), y, none] ∧ Evl.Ex _ G ∧ G b = some (frV (tot ([x0, x1, x2, x3, x4, x5, x0, x1].take i)))) ⟨a2, _, rfl, Evl.Ex.refl _, y5 _ _ _ (y4 _ _ _ (y3 _ _ _ (y2 _ _ _ (ex_new n1 _ _ upd_same))))⟩ ?_ ?_ ?_⟩
                  · rintro i σ G hi ⟨b, y, rfl, e, hb⟩
                    exact SqL.of (e _ _ upd_same)
                  · rintro i v σ G hv ⟨b, y, rfl, e, hb⟩
                    have E0 := (z2 _).trans ((y2 _).trans ((y3 _).trans ((y4 _).trans ((y5 _).trans e))))
                    obtain ⟨r, x, rfl, hxi, hr', sx⟩ := (hx8.ex E0).at hv
                    walk_at "go"
                    have hi : i < 8 := (List.getElem?_eq_some_iff.mp hxi).1
                    have sm := sm_tot ([x0, x1, x2, x3, x4, x5, x0, x1].take i) (fun z hz2 => hx8.sm z (List.mem_of_mem_take hz2))
                    rw [List.length_take] at sm
                    refine ⟨b, r, _, _, 640, rfl, hb, hr', sm.mono (by omega), sx, by decide, fun r2 G2 nr2 e2 hr2 => ?_⟩
                    refine ⟨_, _, rfl, e.trans e2, ?_⟩
                    rw [tot_step hxi]
                    exact hr2
                  · rintro σ G ⟨b, y, rfl, e, hb⟩
                    have E0 := (z2 _).trans ((y2 _).trans ((y3 _).trans ((y4 _).trans ((y5 _).trans e))))
                    have hSG := E0 _ _ hS'
                    have hb8 : G b = some (frV (tot [x0, x1, x2, x3, x4, x5, x0, x1])) := hb
                    have o8 := okd_tot hx8.sm (Nat.le_of_ble_eq_true rfl)
                    walk_at "go"
                    refine ⟨[x0, x1, x2, x3, x4, x5, x0, x1], hx8.ex E0, Nat.le_of_ble_eq_true rfl, fun r G2 nr e2 hr2 => ?_⟩
                    refine ⟨_, frD (tot _), _, _, rfl, dp_fr hr2, o8, by decide, by decide, ?_⟩
                    walk_at "go"
                    refine ⟨_, frD (tot _), _, _, rfl, dp_fr (e2 _ _ hb8), o8, by decide, by decide, ?_⟩
                    walk_at "go"
                    refine (show Q (.bl (decide (V.str (frD (tot [x0, x1, x2, x3, x4, x5, x0, x1])).shown = V.str (frD (tot [x0, x1, x2, x3, x4, x5, x0, x1])).shown))) G2 from ?_)
                    rw [decide_eq_true rfl]
                    exact qq _
                | cons _ _ t6 =>
                  simp only [List.length_cons] at hl
                  omega
end
end K2
namespace K2
open PySem PySem.Spec PyProof.Rows L2 Qj
local macro_rules | `(tactic| walk_at "go") => `(tactic| repeat (first
  | (refine ⟨_, rfl, ?_⟩)
  | (refine ⟨_, _, rfl, rfl, ?_⟩)
  | (refine ⟨_, _, rfl, ?_⟩)
  | (refine ⟨_, _, _, _, rfl, rfl, SqL.of (by assumption), rfl, ?_⟩)
  | (refine ⟨_, _, _, _, rfl, rfl, SqL.of upd_same, rfl, ?_⟩)
  | (refine ⟨_, _, _, _, rfl, rfl, SqT.of (by assumption), rfl, ?_⟩)
  | (refine ⟨_, _, _, _, rfl, rfl, SqT.of upd_same, rfl, ?_⟩)
  | (refine ⟨_, _, _, _, rfl, rfl, (by assumption), rfl, ?_⟩)
  | (refine ⟨_, _, _, _, rfl, rfl, upd_same, rfl, ?_⟩)
  | (refine ⟨_, _, rfl, Or.inl (by assumption), ?_⟩)
  | (refine ⟨_, _, rfl, Or.inr (SqT.of (by assumption)), ?_⟩)
  | (refine ⟨_, _, rfl, Or.inr (SqT.of upd_same), ?_⟩)
  | (refine ⟨_, _, rfl, Or.inl (SqL.of (by assumption)), ?_⟩)
  | (refine ⟨_, _, rfl, SqT.of (by assumption), rfl, ?_⟩)
  | (refine ⟨_, _, rfl, Kn.int _, ?_⟩)
  | (refine ⟨_, _, rfl, (by assumption : Kn _ _ _), ?_⟩)
  | (refine iteNS rfl ?_)
  | (refine iteF ?_)
  | (refine iteT ?_)
  | (refine Or.inl ⟨_, rfl, ?_⟩)
  | (refine Or.inr ⟨_, rfl, ?_⟩)
  | (refine And.intro sz4 ?_)
  | (refine And.intro (by first | exact rfl | assumption | decide | (show (0 : Int) < _; decide) | exact wide_div (b := 63) (by assumption) (by omega) (by decide) (by decide) | exact wide_div (b := 63) (by decide) (by decide) (by decide) (by decide) | exact Or.inl ⟨by decide, by decide⟩ | exact Or.inr ⟨by decide, by decide⟩ | exact ⟨by decide, by decide, by decide⟩ | exact Or.inl ⟨by omega, by omega⟩ | exact Or.inr ⟨by omega, by omega⟩) ?_)))

def spLaw (K : PySem.W.Frag) : Sp := fun vs H Q _ => ∃ (a : Addr) (ns : List Int), vs = [.ref a] ∧ SqL K H a (ns.map V.int) ∧ ns.length ≤ 63 ∧ ∀ H', Q (.bl true) H'
theorem tup_ne {H : Hp} {D p : Addr} {x : Int × Int} (d : DeckAt H D) (h : H p = some (frV x)) : p ≠ D := by
  obtain ⟨g, m, c, e, _⟩ := d
  exact ne_of h e (by unfold frV; exact fun z => by cases z)
theorem frl_bu {H H' : Hp} {D : Addr} (d : DeckAt H D) (bu : Bu D H H') : ∀ {vs : List V} {xs : List (Int × Int)}, FrL H vs xs → FrL H' vs xs
  | _, _, .nil => .nil
  | _, _, .cons h s t => .cons (bu _ _ (tup_ne d h) h) s (frl_bu d bu t)
theorem frl_up {H : Hp} {S : Addr} {l l2 : List V} (hS : H S = some (.lst l)) : ∀ {vs : List V} {xs : List (Int × Int)}, FrL H vs xs → FrL (upd H S (.lst l2)) vs xs
  | _, _, .nil => .nil
  | _, _, .cons h s t => .cons (by rw [upd_ne (ne_of h hS (by unfold frV; exact fun z => by cases z))]; exact h) s (frl_up hS t)
theorem frl_cut {H : Hp} {ws : List V} {xs : List (Int × Int)} (h : FrL H ws xs) (lo hi : Option Int) : ∃ ys, FrL H (cutV ws lo hi) ys ∧ ys.length ≤ xs.length := by
  unfold cutV
  refine ⟨_, (h.drop _).take _, ?_⟩
  rw [List.length_take, List.length_drop]
  omega
/-- a fraction at p, in lowest terms -/
structure Lo (H : Hp) (p : Addr) (x : Int × Int) : Prop where
  h : H p = some (frV x)
  s : Sm 62 x
  g : Nat.gcd x.1.natAbs x.2.natAbs = 1
theorem Lo.bu {H H' : Hp} {D p : Addr} {x : Int × Int} (d : DeckAt H D) (bu : Bu D H H') (l : Lo H p x) : Lo H' p x := ⟨bu _ _ (tup_ne d l.h) l.h, l.s, l.g⟩
theorem Lo.ex {H H' : Hp} {p : Addr} {x : Int × Int} (e : Evl.Ex H H') (l : Lo H p x) : Lo H' p x := ⟨e _ _ l.h, l.s, l.g⟩
section
variable {P : Program} {w : World} {K : PySem.W.Frag} {mg : Str → Option Value} {base : Heap}
theorem ok_law (T : Txt K mg) : FnG P w K mg base CX0 5 T.law.f T.law.fd ["_law_script"] (spLaw K) := by
  refine okG T.law.F sc_law (fun vs H Q E h => ?_) (fun cdv A outer s H vs Q E hr gd h => ?_)
  · obtain ⟨a, ns, rfl, _⟩ := h
    rfl
  obtain ⟨a, ns, rfl, hS, hlen, q⟩ := h
  have nd := sc_law.nd
  refine ⟨_, PSs.nox (pss_cons (ps_set (i := 1) nd rfl (.inl rfl) (pe_call (ok__law_deck T) (hr.mono (by decide)) (by rfl) T._law_deck.g T._law_deck.F.kp T._law_deck.b .nil pass0 (pa_cons (pv 0) pa_nil)))
      (pss_cons (ps_set (i := 2) nd rfl (.inl rfl) (pe_lst pa_nil))
      (pss_cons (ps_for PassesOwn.never rfl (pi_range1 rfl T.m_range (pa_cons pe_int pa_nil)) (pg_name (i := 3) nd rfl (.inl rfl))
        (pss_cons (ps_set (i := 4) nd rfl (.inl rfl) (pe_call (ok__law_fraction T) (hr.mono (by decide)) (by rfl) T._law_fraction.g T._law_fraction.F.kp T._law_fraction.b .nil pass0 (pa_cons (pv 1) pa_nil)))
        (pss_cons (ps_set (i := 5) nd rfl (.inl rfl) (pe_call (ok__law_fraction T) (hr.mono (by decide)) (by rfl) T._law_fraction.g T._law_fraction.F.kp T._law_fraction.b .nil pass0 (pa_cons (pv 1) pa_nil)))
        (pss_cons (ps_set (i := 6) nd rfl (.inl rfl) (pe_call (ok__law_take T) (hr.mono (by decide)) (by rfl) T._law_take.g T._law_take.F.kp T._law_take.b .nil pass0 (pa_cons (pv 1) (pa_cons pe_int pa_nil))))
        (Evl.pss_cut (ps_if (pt_cmpR op_lt (pv 6) pe_int (nomark _))
          (pss_one (ps_set (i := 5) nd rfl (.inl rfl) (pe_ix ix_tup (pe_tup (pa_cons (pv 4) (pa_cons (pe_tup (pa_cons pe_int (pa_cons pe_int pa_nil))) (pa_cons (pe_call (ok__law_frac T) (hr.mono (by decide)) (by rfl) T._law_frac.g T._law_frac.F.kp T._law_frac.b .nil pass0 (pa_cons (pe_un un_neg (pe_ix ix_tup (pv 4) pe_int (fun _ _ => rfl))) (pa_cons (pe_ix ix_tup (pv 4) pe_int (fun _ _ => rfl)) pa_nil))) pa_nil)))) (pv 6) (fun _ _ => rfl))))
          pss_nil)
        (pss_cons (ps_if (PW.pt (pw_or (pt_not (pt_val (pe_callG (ok__law_right T) (hr.mono (by decide)) gd (by rfl) T._law_right.g T._law_right.F.kp T._law_right.b .nil pass0 (pa_cons (pv 4) (pa_cons (pv 5) pa_nil))))) (pw_or1 (pt_not (pt_val (pe_callG (ok__law_right T) (hr.mono (by decide)) gd (by rfl) T._law_right.g T._law_right.F.kp T._law_right.b .nil pass0 (pa_cons (pv 5) (pa_cons (pv 4) pa_nil))))))))
          (pss_one (ps_ret pe_bl))
          pss_nil)
        (pss_one (ps_expr (pe_bm PySem.F.plainAttrs_list PySem.F.slot_list_append PySem.F.type_list_append mt_append (pv 2) (pa_cons (pv 4) pa_nil))))))))))
      (pss_one (ps_ret (pe_callG (ok__law_total_right T) (hr.mono (by decide)) gd (by rfl) T._law_total_right.g T._law_total_right.F.kp T._law_total_right.b .nil pass0 (pa_cons (pe_slice sl_list (pv 2) po_none (po_some (pe_call (ok__law_take T) (hr.mono (by decide)) (by rfl) T._law_take.g T._law_take.F.kp T._law_take.b .nil pass0 (pa_cons (pv 1) (pa_cons pe_int pa_nil))))) pa_nil))))))), ?_⟩
  walk_at "go"
  refine ⟨a, ns, rfl, hS, hlen, fun D H1 nD e1 d1 => ?_⟩
  walk_at "go"
  intro S nS
  have d1 := d1.ex (ex_new (o := .lst []) nS)
  have neS : S ≠ D := by
    intro z
    subst z
    obtain ⟨g, m, c, hh, _⟩ := d1
    rw [upd_same] at hh
    cases hh
  walk_at "go"
  refine for_range (n := 6) (fun i σ H' => ∃ x3 x4 x5 x6 ws xs, σ = [some (.ref a), some (.ref D), some (.ref S), x3, x4, x5, x6] ∧ DeckAt H' D ∧ H' S = some (.lst ws) ∧ FrL H' ws xs ∧ ws.length = i) ⟨_, _, _, _, [], [], rfl, d1, upd_same, .nil, rfl⟩ ?_ ?_
  · rintro i σ H2 hi ⟨x3, x4, x5, x6, ws, xs, rfl, d2, hS2, fl2, hw⟩
    walk_at "go"
    intro r x H3 hr3 sx gx bu3 d3
    have fl3 := frl_bu d2 bu3 fl2
    have hS3 := bu3 _ _ neS hS2
    walk_at "go"
    intro r' y H4 hr4 sy gy bu4 d4
    have fl4 := frl_bu d3 bu4 fl3
    have hS4 := bu4 _ _ neS hS3
    have lx4 := (Lo.mk hr3 sx gx).bu d3 bu4
    have ly4 := Lo.mk hr4 sy gy
    walk_at "go"
    intro v H5 v0 v1 bu5 d5
    have fl5 := frl_bu d4 bu5 fl4
    have hS5 := bu5 _ _ neS hS4
    have lx5 := lx4.bu d4 bu5
    have ly5 := ly4.bu d4 bu5
    walk_at "go"
    refine ⟨fun σ' H' => ∃ (u : Addr) (z : Int × Int), σ' = [some (.ref a), some (.ref D), some (.ref S), some (.int (0 + i)), some (.ref r), some (.ref u), some (.int v)] ∧ DeckAt H' D ∧ H' S = some (.lst ws) ∧ FrL H' ws xs ∧ Lo H' r x ∧ Lo H' u z, ?_, ?_⟩
    · walk_at "go"
      refine ite2 (fun h => ?_) (fun h => ?_)
      · have v3 : v < 3 := of_decide_eq_true h
        have hx5 : H5 r = some (.tup [.int x.1, .int x.2]) := lx5.h
        walk_at "go"
        intro p1 n1
        have f1 := ex_new (o := .tup [.int 0, .int 1]) n1
        have hx6 : _ = some (HO.tup [.int x.1, .int x.2]) := f1 _ _ hx5
        walk_at "go"
        have xn : (-x.1).natAbs < 2 ^ 62 := by rw [Int.natAbs_neg]; exact sx.t
        have x0 : x.2 ≠ 0 := Int.ne_of_gt sx.p
        refine ⟨x0, pow_up xn (by decide), pow_up sx.b (by decide), fun p2 H7 n2 f2 h2 => ?_⟩
        walk_at "go"
        intro p3 n3
        have f3 := f1.trans (f2.trans (ex_new (o := .tup [.ref r, .ref p1, .ref p2]) n3))
        have l0 := lx5.ex f3
        have l1 : Lo _ p1 (0, 1) := ⟨(f2.trans (ex_new (o := .tup [.ref r, .ref p1, .ref p2]) n3)) _ _ upd_same, ⟨by decide, by decide, by decide⟩, by decide⟩
        have l2 : Lo _ p2 _ := ⟨(ex_new (o := .tup [.ref r, .ref p1, .ref p2]) n3) _ _ h2, sm_fr x0 xn sx.b, fr_gcd x0⟩
        have d7 := d5.ex f3
        have fl7 := fl5.ex f3
        have hS7 := f3 _ _ hS5
        obtain rfl | rfl | rfl : v = 0 ∨ v = 1 ∨ v = 2 := by omega
        · walk_at "go"
          exact ⟨_, _, rfl, d7, hS7, fl7, l0, l0⟩
        · walk_at "go"
          exact ⟨_, _, rfl, d7, hS7, fl7, l0, l1⟩
        · walk_at "go"
          exact ⟨_, _, rfl, d7, hS7, fl7, l0, l2⟩
      · exact ⟨_, _, rfl, d5, hS5, fl5, lx5, ly5⟩
    · rintro σ' H6 ⟨u, z, rfl, d6, hS6, fl6, lx6, lz6⟩
      walk_at "go"
      refine ⟨_, _, x, z, rfl, lx6.h, lz6.h, lx6.s, lz6.s, lz6.g, fun H7 e7 => ?_⟩
      walk_at "go"
      refine ⟨_, _, z, x, rfl, e7 _ _ lz6.h, e7 _ _ lx6.h, lz6.s, lx6.s, lx6.g, fun H8 e8 => ?_⟩
      walk_at "go"
      have e78 := e7.trans e8
      have hS8 := e78 _ _ hS6
      refine ⟨.inl ⟨rfl, _, SqL.of hS8⟩, .ref r, rfl, S, _, _, rfl, rfl, hS8, Nat.lt_of_lt_of_le (show ws.length < 100 by omega) sz4, ?_⟩
      refine ⟨_, _, _, _, ws ++ [.ref r], xs ++ [x], rfl, ?_, upd_same, ?_, ?_⟩
      · obtain ⟨g, m, c, hD, hm⟩ := d6.ex e78
        exact ⟨g, m, c, by rw [upd_ne (Ne.symm neS)]; exact hD, hm⟩
      · exact frl_up hS8 ((fl6.ex e78).app (.cons (e78 _ _ lx6.h) lx6.s .nil))
      · rw [List.length_append, hw]
        rfl
  · rintro σ H2 ⟨x3, x4, x5, x6, ws, xs, rfl, d2, hS2, fl2, hw⟩
    walk_at "go"
    intro v H3 v0 v1 bu3 d3
    walk_at "go"
    refine ⟨S, _, rfl, SqL.of (bu3 _ _ neS hS2), fun c nc => ?_⟩
    obtain ⟨ys, fy, ly⟩ := frl_cut (frl_bu d2 bu3 fl2) none (some v)
    refine ⟨c, _, ys, rfl, upd_same, fy.ex (ex_new nc), ?_, fun H4 => q _⟩
    have := fl2.len
    omega
end
end K2
namespace K2
open PySem PySem.Spec PyProof.Rows L2 Qj
theorem exm_same {K : PySem.W.Frag} {S : Addr} (b : PySem.W.subIn K (.ref S) (.type "BaseException") = some true) (i : PySem.W.isClsIn K S = true) (t : PySem.W.typeIn K (.ref S) = some (.type "type")) (s : PySem.W.subIn K (.ref S) (.ref S) = some true) : PySem.W.exmOne K (.ref S) (.ref S) = some true := by
  have i2 : (PySem.W.clsIn K S).isSome = true := i
  unfold PySem.W.exmOne PySem.W.kitCls
  rw [if_pos (by rw [b]; rfl)]
  dsimp only
  rw [if_pos (by rw [i2, t]; rfl)]
  exact s
def mkTxt {K : PySem.W.Frag} {h : Heap} {mg : Str → Option Value} (X : K.In h) (G : h.Ns mainGlobals mg)
    {f__lowest : Addr} {oc__lowest kV__lowest dc__lowest pm__lowest cd__lowest ct__lowest : Value} {od__lowest an__lowest : Option Addr} {sl__lowest : Array (Option Value)}
    (a__lowest : PySem.W.nsIn K mainGlobals "_lowest" = some (some (.ref f__lowest))) (l__lowest : K.lookup f__lowest = some ⟨oc__lowest, od__lowest, .func (PySem.W.fnOf "_lowest" "_lowest" (defArgs s__lowest) (defBody s__lowest) (defScope s__lowest) .none kV__lowest dc__lowest pm__lowest an__lowest cd__lowest ct__lowest), sl__lowest⟩) (c__lowest : PySem.W.codeIn K cd__lowest "_lowest" = true) (k__lowest : PySem.W.keepIn K (.ref f__lowest) = true)
    {f_plus : Addr} {oc_plus kV_plus dc_plus pm_plus cd_plus ct_plus : Value} {od_plus an_plus : Option Addr} {sl_plus : Array (Option Value)}
    (a_plus : PySem.W.nsIn K mainGlobals "plus" = some (some (.ref f_plus))) (l_plus : K.lookup f_plus = some ⟨oc_plus, od_plus, .func (PySem.W.fnOf "plus" "plus" (defArgs s_plus) (defBody s_plus) (defScope s_plus) .none kV_plus dc_plus pm_plus an_plus cd_plus ct_plus), sl_plus⟩) (c_plus : PySem.W.codeIn K cd_plus "plus" = true) (k_plus : PySem.W.keepIn K (.ref f_plus) = true)
    {f_minus : Addr} {oc_minus kV_minus dc_minus pm_minus cd_minus ct_minus : Value} {od_minus an_minus : Option Addr} {sl_minus : Array (Option Value)}
    (a_minus : PySem.W.nsIn K mainGlobals "minus" = some (some (.ref f_minus))) (l_minus : K.lookup f_minus = some ⟨oc_minus, od_minus, .func (PySem.W.fnOf "minus" "minus" (defArgs s_minus) (defBody s_minus) (defScope s_minus) .none kV_minus dc_minus pm_minus an_minus cd_minus ct_minus), sl_minus⟩) (c_minus : PySem.W.codeIn K cd_minus "minus" = true) (k_minus : PySem.W.keepIn K (.ref f_minus) = true)
    {f_times : Addr} {oc_times kV_times dc_times pm_times cd_times ct_times : Value} {od_times an_times : Option Addr} {sl_times : Array (Option Value)}
    (a_times : PySem.W.nsIn K mainGlobals "times" = some (some (.ref f_times))) (l_times : K.lookup f_times = some ⟨oc_times, od_times, .func (PySem.W.fnOf "times" "times" (defArgs s_times) (defBody s_times) (defScope s_times) .none kV_times dc_times pm_times an_times cd_times ct_times), sl_times⟩) (c_times : PySem.W.codeIn K cd_times "times" = true) (k_times : PySem.W.keepIn K (.ref f_times) = true)
    {f_over : Addr} {oc_over kV_over dc_over pm_over cd_over ct_over : Value} {od_over an_over : Option Addr} {sl_over : Array (Option Value)}
    (a_over : PySem.W.nsIn K mainGlobals "over" = some (some (.ref f_over))) (l_over : K.lookup f_over = some ⟨oc_over, od_over, .func (PySem.W.fnOf "over" "over" (defArgs s_over) (defBody s_over) (defScope s_over) .none kV_over dc_over pm_over an_over cd_over ct_over), sl_over⟩) (c_over : PySem.W.codeIn K cd_over "over" = true) (k_over : PySem.W.keepIn K (.ref f_over) = true)
    {f_compare : Addr} {oc_compare kV_compare dc_compare pm_compare cd_compare ct_compare : Value} {od_compare an_compare : Option Addr} {sl_compare : Array (Option Value)}
    (a_compare : PySem.W.nsIn K mainGlobals "compare" = some (some (.ref f_compare))) (l_compare : K.lookup f_compare = some ⟨oc_compare, od_compare, .func (PySem.W.fnOf "compare" "compare" (defArgs s_compare) (defBody s_compare) (defScope s_compare) .none kV_compare dc_compare pm_compare an_compare cd_compare ct_compare), sl_compare⟩) (c_compare : PySem.W.codeIn K cd_compare "compare" = true) (k_compare : PySem.W.keepIn K (.ref f_compare) = true)
    {f_floor_of : Addr} {oc_floor_of kV_floor_of dc_floor_of pm_floor_of cd_floor_of ct_floor_of : Value} {od_floor_of an_floor_of : Option Addr} {sl_floor_of : Array (Option Value)}
    (a_floor_of : PySem.W.nsIn K mainGlobals "floor_of" = some (some (.ref f_floor_of))) (l_floor_of : K.lookup f_floor_of = some ⟨oc_floor_of, od_floor_of, .func (PySem.W.fnOf "floor_of" "floor_of" (defArgs s_floor_of) (defBody s_floor_of) (defScope s_floor_of) .none kV_floor_of dc_floor_of pm_floor_of an_floor_of cd_floor_of ct_floor_of), sl_floor_of⟩) (c_floor_of : PySem.W.codeIn K cd_floor_of "floor_of" = true) (k_floor_of : PySem.W.keepIn K (.ref f_floor_of) = true)
    {f_part_of : Addr} {oc_part_of kV_part_of dc_part_of pm_part_of cd_part_of ct_part_of : Value} {od_part_of an_part_of : Option Addr} {sl_part_of : Array (Option Value)}
    (a_part_of : PySem.W.nsIn K mainGlobals "part_of" = some (some (.ref f_part_of))) (l_part_of : K.lookup f_part_of = some ⟨oc_part_of, od_part_of, .func (PySem.W.fnOf "part_of" "part_of" (defArgs s_part_of) (defBody s_part_of) (defScope s_part_of) .none kV_part_of dc_part_of pm_part_of an_part_of cd_part_of ct_part_of), sl_part_of⟩) (c_part_of : PySem.W.codeIn K cd_part_of "part_of" = true) (k_part_of : PySem.W.keepIn K (.ref f_part_of) = true)
    {f__law_deck : Addr} {oc__law_deck kV__law_deck dc__law_deck pm__law_deck cd__law_deck ct__law_deck : Value} {od__law_deck an__law_deck : Option Addr} {sl__law_deck : Array (Option Value)}
    (a__law_deck : PySem.W.nsIn K mainGlobals "_law_deck" = some (some (.ref f__law_deck))) (l__law_deck : K.lookup f__law_deck = some ⟨oc__law_deck, od__law_deck, .func (PySem.W.fnOf "_law_deck" "_law_deck" (defArgs s__law_deck) (defBody s__law_deck) (defScope s__law_deck) .none kV__law_deck dc__law_deck pm__law_deck an__law_deck cd__law_deck ct__law_deck), sl__law_deck⟩) (c__law_deck : PySem.W.codeIn K cd__law_deck "_law_deck" = true) (k__law_deck : PySem.W.keepIn K (.ref f__law_deck) = true)
    {f__law_take : Addr} {oc__law_take kV__law_take dc__law_take pm__law_take cd__law_take ct__law_take : Value} {od__law_take an__law_take : Option Addr} {sl__law_take : Array (Option Value)}
    (a__law_take : PySem.W.nsIn K mainGlobals "_law_take" = some (some (.ref f__law_take))) (l__law_take : K.lookup f__law_take = some ⟨oc__law_take, od__law_take, .func (PySem.W.fnOf "_law_take" "_law_take" (defArgs s__law_take) (defBody s__law_take) (defScope s__law_take) .none kV__law_take dc__law_take pm__law_take an__law_take cd__law_take ct__law_take), sl__law_take⟩) (c__law_take : PySem.W.codeIn K cd__law_take "_law_take" = true) (k__law_take : PySem.W.keepIn K (.ref f__law_take) = true)
    {f__law_frac : Addr} {oc__law_frac kV__law_frac dc__law_frac pm__law_frac cd__law_frac ct__law_frac : Value} {od__law_frac an__law_frac : Option Addr} {sl__law_frac : Array (Option Value)}
    (a__law_frac : PySem.W.nsIn K mainGlobals "_law_frac" = some (some (.ref f__law_frac))) (l__law_frac : K.lookup f__law_frac = some ⟨oc__law_frac, od__law_frac, .func (PySem.W.fnOf "_law_frac" "_law_frac" (defArgs s__law_frac) (defBody s__law_frac) (defScope s__law_frac) .none kV__law_frac dc__law_frac pm__law_frac an__law_frac cd__law_frac ct__law_frac), sl__law_frac⟩) (c__law_frac : PySem.W.codeIn K cd__law_frac "_law_frac" = true) (k__law_frac : PySem.W.keepIn K (.ref f__law_frac) = true)
    {f__law_plus : Addr} {oc__law_plus kV__law_plus dc__law_plus pm__law_plus cd__law_plus ct__law_plus : Value} {od__law_plus an__law_plus : Option Addr} {sl__law_plus : Array (Option Value)}
    (a__law_plus : PySem.W.nsIn K mainGlobals "_law_plus" = some (some (.ref f__law_plus))) (l__law_plus : K.lookup f__law_plus = some ⟨oc__law_plus, od__law_plus, .func (PySem.W.fnOf "_law_plus" "_law_plus" (defArgs s__law_plus) (defBody s__law_plus) (defScope s__law_plus) .none kV__law_plus dc__law_plus pm__law_plus an__law_plus cd__law_plus ct__law_plus), sl__law_plus⟩) (c__law_plus : PySem.W.codeIn K cd__law_plus "_law_plus" = true) (k__law_plus : PySem.W.keepIn K (.ref f__law_plus) = true)
    {f__law_minus : Addr} {oc__law_minus kV__law_minus dc__law_minus pm__law_minus cd__law_minus ct__law_minus : Value} {od__law_minus an__law_minus : Option Addr} {sl__law_minus : Array (Option Value)}
    (a__law_minus : PySem.W.nsIn K mainGlobals "_law_minus" = some (some (.ref f__law_minus))) (l__law_minus : K.lookup f__law_minus = some ⟨oc__law_minus, od__law_minus, .func (PySem.W.fnOf "_law_minus" "_law_minus" (defArgs s__law_minus) (defBody s__law_minus) (defScope s__law_minus) .none kV__law_minus dc__law_minus pm__law_minus an__law_minus cd__law_minus ct__law_minus), sl__law_minus⟩) (c__law_minus : PySem.W.codeIn K cd__law_minus "_law_minus" = true) (k__law_minus : PySem.W.keepIn K (.ref f__law_minus) = true)
    {f__law_times : Addr} {oc__law_times kV__law_times dc__law_times pm__law_times cd__law_times ct__law_times : Value} {od__law_times an__law_times : Option Addr} {sl__law_times : Array (Option Value)}
    (a__law_times : PySem.W.nsIn K mainGlobals "_law_times" = some (some (.ref f__law_times))) (l__law_times : K.lookup f__law_times = some ⟨oc__law_times, od__law_times, .func (PySem.W.fnOf "_law_times" "_law_times" (defArgs s__law_times) (defBody s__law_times) (defScope s__law_times) .none kV__law_times dc__law_times pm__law_times an__law_times cd__law_times ct__law_times), sl__law_times⟩) (c__law_times : PySem.W.codeIn K cd__law_times "_law_times" = true) (k__law_times : PySem.W.keepIn K (.ref f__law_times) = true)
    {f__law_part : Addr} {oc__law_part kV__law_part dc__law_part pm__law_part cd__law_part ct__law_part : Value} {od__law_part an__law_part : Option Addr} {sl__law_part : Array (Option Value)}
    (a__law_part : PySem.W.nsIn K mainGlobals "_law_part" = some (some (.ref f__law_part))) (l__law_part : K.lookup f__law_part = some ⟨oc__law_part, od__law_part, .func (PySem.W.fnOf "_law_part" "_law_part" (defArgs s__law_part) (defBody s__law_part) (defScope s__law_part) .none kV__law_part dc__law_part pm__law_part an__law_part cd__law_part ct__law_part), sl__law_part⟩) (c__law_part : PySem.W.codeIn K cd__law_part "_law_part" = true) (k__law_part : PySem.W.keepIn K (.ref f__law_part) = true)
    {f__law_number : Addr} {oc__law_number kV__law_number dc__law_number pm__law_number cd__law_number ct__law_number : Value} {od__law_number an__law_number : Option Addr} {sl__law_number : Array (Option Value)}
    (a__law_number : PySem.W.nsIn K mainGlobals "_law_number" = some (some (.ref f__law_number))) (l__law_number : K.lookup f__law_number = some ⟨oc__law_number, od__law_number, .func (PySem.W.fnOf "_law_number" "_law_number" (defArgs s__law_number) (defBody s__law_number) (defScope s__law_number) .none kV__law_number dc__law_number pm__law_number an__law_number cd__law_number ct__law_number), sl__law_number⟩) (c__law_number : PySem.W.codeIn K cd__law_number "_law_number" = true) (k__law_number : PySem.W.keepIn K (.ref f__law_number) = true)
    {f__law_fraction : Addr} {oc__law_fraction kV__law_fraction dc__law_fraction pm__law_fraction cd__law_fraction ct__law_fraction : Value} {od__law_fraction an__law_fraction : Option Addr} {sl__law_fraction : Array (Option Value)}
    (a__law_fraction : PySem.W.nsIn K mainGlobals "_law_fraction" = some (some (.ref f__law_fraction))) (l__law_fraction : K.lookup f__law_fraction = some ⟨oc__law_fraction, od__law_fraction, .func (PySem.W.fnOf "_law_fraction" "_law_fraction" (defArgs s__law_fraction) (defBody s__law_fraction) (defScope s__law_fraction) .none kV__law_fraction dc__law_fraction pm__law_fraction an__law_fraction cd__law_fraction ct__law_fraction), sl__law_fraction⟩) (c__law_fraction : PySem.W.codeIn K cd__law_fraction "_law_fraction" = true) (k__law_fraction : PySem.W.keepIn K (.ref f__law_fraction) = true)
    {f__law_over : Addr} {oc__law_over kV__law_over dc__law_over pm__law_over cd__law_over ct__law_over : Value} {od__law_over an__law_over : Option Addr} {sl__law_over : Array (Option Value)}
    (a__law_over : PySem.W.nsIn K mainGlobals "_law_over" = some (some (.ref f__law_over))) (l__law_over : K.lookup f__law_over = some ⟨oc__law_over, od__law_over, .func (PySem.W.fnOf "_law_over" "_law_over" (defArgs s__law_over) (defBody s__law_over) (defScope s__law_over) .none kV__law_over dc__law_over pm__law_over an__law_over cd__law_over ct__law_over), sl__law_over⟩) (c__law_over : PySem.W.codeIn K cd__law_over "_law_over" = true) (k__law_over : PySem.W.keepIn K (.ref f__law_over) = true)
    {f__law_right : Addr} {oc__law_right kV__law_right dc__law_right pm__law_right cd__law_right ct__law_right : Value} {od__law_right an__law_right : Option Addr} {sl__law_right : Array (Option Value)}
    (a__law_right : PySem.W.nsIn K mainGlobals "_law_right" = some (some (.ref f__law_right))) (l__law_right : K.lookup f__law_right = some ⟨oc__law_right, od__law_right, .func (PySem.W.fnOf "_law_right" "_law_right" (defArgs s__law_right) (defBody s__law_right) (defScope s__law_right) .none kV__law_right dc__law_right pm__law_right an__law_right cd__law_right ct__law_right), sl__law_right⟩) (c__law_right : PySem.W.codeIn K cd__law_right "_law_right" = true) (k__law_right : PySem.W.keepIn K (.ref f__law_right) = true)
    {f__law_total_right : Addr} {oc__law_total_right kV__law_total_right dc__law_total_right pm__law_total_right cd__law_total_right ct__law_total_right : Value} {od__law_total_right an__law_total_right : Option Addr} {sl__law_total_right : Array (Option Value)}
    (a__law_total_right : PySem.W.nsIn K mainGlobals "_law_total_right" = some (some (.ref f__law_total_right))) (l__law_total_right : K.lookup f__law_total_right = some ⟨oc__law_total_right, od__law_total_right, .func (PySem.W.fnOf "_law_total_right" "_law_total_right" (defArgs s__law_total_right) (defBody s__law_total_right) (defScope s__law_total_right) .none kV__law_total_right dc__law_total_right pm__law_total_right an__law_total_right cd__law_total_right ct__law_total_right), sl__law_total_right⟩) (c__law_total_right : PySem.W.codeIn K cd__law_total_right "_law_total_right" = true) (k__law_total_right : PySem.W.keepIn K (.ref f__law_total_right) = true)
    {f_law : Addr} {oc_law kV_law dc_law pm_law cd_law ct_law : Value} {od_law an_law : Option Addr} {sl_law : Array (Option Value)}
    (a_law : PySem.W.nsIn K mainGlobals "law" = some (some (.ref f_law))) (l_law : K.lookup f_law = some ⟨oc_law, od_law, .func (PySem.W.fnOf "law" "law" (defArgs s_law) (defBody s_law) (defScope s_law) .none kV_law dc_law pm_law an_law cd_law ct_law), sl_law⟩) (c_law : PySem.W.codeIn K cd_law "law" = true) (k_law : PySem.W.keepIn K (.ref f_law) = true)
    (z_abs : PySem.W.nsIn K mainGlobals "abs" = some none)
    (z_int : PySem.W.nsIn K mainGlobals "int" = some none)
    (z_len : PySem.W.nsIn K mainGlobals "len" = some none)
    (z_range : PySem.W.nsIn K mainGlobals "range" = some none)
    (z_repr : PySem.W.nsIn K mainGlobals "repr" = some none)
    (z_gcd : PySem.W.nsIn K mainGlobals "gcd" = some (some (.builtin "math.gcd")))
    {tF : Addr} {oc_t kV_t dc_t pm_t cd_t ct_t : Value} {od_t an_t : Option Addr} {sl_t : Array (Option Value)} (a_tot : PySem.W.nsIn K mainGlobals "total" = some (some (.ref tF))) (l_tot : K.lookup tF = some ⟨oc_t, od_t, .func (PySem.W.fnOf "total" "total" (defArgs s_total) (defBody s_total) (defScope s_total) .none kV_t dc_t pm_t an_t cd_t ct_t), sl_t⟩) (c_tot : PySem.W.codeIn K cd_t "total" = true) (k_tot : PySem.W.keepIn K (.ref tF) = true)
    {cC : Addr} (a_C : PySem.W.nsIn K mainGlobals "NoFraction" = some (some (.ref cC))) (k_C : PySem.W.keepIn K (.ref cC) = true) (x_C : PySem.W.excIn K cC [.type "ValueError", .type "Exception", .type "BaseException", .type "object"] "ValueError.__new__" = true) (b_C : PySem.W.subIn K (.ref cC) (.type "BaseException") = some true) (t_C : PySem.W.typeIn K (.ref cC) = some (.type "type")) (i_C : PySem.W.isClsIn K cC = true) (s_C : PySem.W.subIn K (.ref cC) (.ref cC) = some true) : Txt K mg where
    _lowest := def_mk X G a__lowest l__lowest c__lowest k__lowest (fun _ _ _ _ _ _ us hl => match us, hl with | [_, _], _ => rfl)
    plus := def_mk X G a_plus l_plus c_plus k_plus (fun _ _ _ _ _ _ us hl => match us, hl with | [_, _], _ => rfl)
    minus := def_mk X G a_minus l_minus c_minus k_minus (fun _ _ _ _ _ _ us hl => match us, hl with | [_, _], _ => rfl)
    times := def_mk X G a_times l_times c_times k_times (fun _ _ _ _ _ _ us hl => match us, hl with | [_, _], _ => rfl)
    over := def_mk X G a_over l_over c_over k_over (fun _ _ _ _ _ _ us hl => match us, hl with | [_, _], _ => rfl)
    compare := def_mk X G a_compare l_compare c_compare k_compare (fun _ _ _ _ _ _ us hl => match us, hl with | [_, _], _ => rfl)
    floor_of := def_mk X G a_floor_of l_floor_of c_floor_of k_floor_of (fun _ _ _ _ _ _ us hl => match us, hl with | [_], _ => rfl)
    part_of := def_mk X G a_part_of l_part_of c_part_of k_part_of (fun _ _ _ _ _ _ us hl => match us, hl with | [_], _ => rfl)
    _law_deck := def_mk X G a__law_deck l__law_deck c__law_deck k__law_deck (fun _ _ _ _ _ _ us hl => match us, hl with | [_], _ => rfl)
    _law_take := def_mk X G a__law_take l__law_take c__law_take k__law_take (fun _ _ _ _ _ _ us hl => match us, hl with | [_, _], _ => rfl)
    _law_frac := def_mk X G a__law_frac l__law_frac c__law_frac k__law_frac (fun _ _ _ _ _ _ us hl => match us, hl with | [_, _], _ => rfl)
    _law_plus := def_mk X G a__law_plus l__law_plus c__law_plus k__law_plus (fun _ _ _ _ _ _ us hl => match us, hl with | [_, _], _ => rfl)
    _law_minus := def_mk X G a__law_minus l__law_minus c__law_minus k__law_minus (fun _ _ _ _ _ _ us hl => match us, hl with | [_, _], _ => rfl)
    _law_times := def_mk X G a__law_times l__law_times c__law_times k__law_times (fun _ _ _ _ _ _ us hl => match us, hl with | [_, _], _ => rfl)
    _law_part := def_mk X G a__law_part l__law_part c__law_part k__law_part (fun _ _ _ _ _ _ us hl => match us, hl with | [_], _ => rfl)
    _law_number := def_mk X G a__law_number l__law_number c__law_number k__law_number (fun _ _ _ _ _ _ us hl => match us, hl with | [_, _], _ => rfl)
    _law_fraction := def_mk X G a__law_fraction l__law_fraction c__law_fraction k__law_fraction (fun _ _ _ _ _ _ us hl => match us, hl with | [_], _ => rfl)
    _law_over := def_mk X G a__law_over l__law_over c__law_over k__law_over (fun _ _ _ _ _ _ us hl => match us, hl with | [_, _], _ => rfl)
    _law_right := def_mk X G a__law_right l__law_right c__law_right k__law_right (fun _ _ _ _ _ _ us hl => match us, hl with | [_, _], _ => rfl)
    _law_total_right := def_mk X G a__law_total_right l__law_total_right c__law_total_right k__law_total_right (fun _ _ _ _ _ _ us hl => match us, hl with | [_], _ => rfl)
    law := def_mk X G a_law l_law c_law k_law (fun _ _ _ _ _ _ us hl => match us, hl with | [_], _ => rfl)
    m_abs := PySem.W.mg_none_of X G z_abs
    m_int := PySem.W.mg_none_of X G z_int
    m_len := PySem.W.mg_none_of X G z_len
    m_range := PySem.W.mg_none_of X G z_range
    m_repr := PySem.W.mg_none_of X G z_repr
    g_gcd := PySem.W.mg_of X G z_gcd
    tF := tF
    tX := ⟨_, _, _, _, _, _, _, _, _, l_tot, c_tot⟩
    tG := PySem.W.mg_of X G a_tot
    tK := k_tot
    C := cC
    gC := PySem.W.mg_of X G a_C
    kC := k_C
    xC := x_C
    bC := b_C
    tC := t_C
    eC := exm_same b_C i_C t_C s_C
theorem all_mk {P : Program} {w : World} {K : PySem.W.Frag} {mg : Str → Option Value} {fa : Addr} (hfa : mg "law" = some (.ref fa)) (T : Txt K mg) :
    ∃ fd : FuncData, (∀ (s : Shared) (u : Value), BindsTo s fd ⟨[u], []⟩ [("_law_script", u)]) ∧ ∀ base : Heap, K.In base → base.Ns mainGlobals mg → FnG P w K mg base CX0 5 fa fd ["_law_script"] (spLaw K) := by
  have e := hfa.symm.trans T.law.g
  cases e
  obtain ⟨oc, od, kV, doc, pm, an, cdv, ct, osl, e, _, _⟩ := T.law.F.ex
  refine ⟨T.law.fd, fun s u => ?_, fun base _ _ => ok_law T⟩
  rw [e]
  exact .of_eq rfl
end K2
open PySem PySem.W PyProof.Rows
set_option maxHeartbeats 0 in
theorem PySem.Challenge.cw_offscale_k02_sums_and_order_holds : PySem.Challenge.rw_offscale_k02_sums_and_order.Holds := by
  w_on; o_law; k_head; (case hw => w_witness2)
  k_fill
  refine Qj.walk_ofG (l := PySem.Challenge.rw_offscale_k02_sums_and_order) (n := 63) (k := 5) (x := "_law_script") (CX := L2.CX0) (sp := K2.spLaw) rfl (by decide) rfl ⟨rfl, by decide, by decide⟩ (fun w h Y => PySem.W.kIn_of Y) ?F (fun K H a ns hl _ hS => ⟨a, ns, rfl, hS, hl, fun _ => rfl⟩) (fun _ _ _ _ h => h)
  case F =>
    intro w mg fa h KX G hmg
    refine' K2.all_mk hmg (K2.mkTxt KX G ?a__lowest ?l__lowest ?c__lowest ?k__lowest ?a_plus ?l_plus ?c_plus ?k_plus ?a_minus ?l_minus ?c_minus ?k_minus ?a_times ?l_times ?c_times ?k_times ?a_over ?l_over ?c_over ?k_over ?a_compare ?l_compare ?c_compare ?k_compare ?a_floor_of ?l_floor_of ?c_floor_of ?k_floor_of ?a_part_of ?l_part_of ?c_part_of ?k_part_of ?a__law_deck ?l__law_deck ?c__law_deck ?k__law_deck ?a__law_take ?l__law_take ?c__law_take ?k__law_take ?a__law_frac ?l__law_frac ?c__law_frac ?k__law_frac ?a__law_plus ?l__law_plus ?c__law_plus ?k__law_plus ?a__law_minus ?l__law_minus ?c__law_minus ?k__law_minus ?a__law_times ?l__law_times ?c__law_times ?k__law_times ?a__law_part ?l__law_part ?c__law_part ?k__law_part ?a__law_number ?l__law_number ?c__law_number ?k__law_number ?a__law_fraction ?l__law_fraction ?c__law_fraction ?k__law_fraction ?a__law_over ?l__law_over ?c__law_over ?k__law_over ?a__law_right ?l__law_right ?c__law_right ?k__law_right ?a__law_total_right ?l__law_total_right ?c__law_total_right ?k__law_total_right ?a_law ?l_law ?c_law ?k_law ?z_abs ?z_int ?z_len ?z_range ?z_repr ?z_gcd ?a_tot ?l_tot ?c_tot ?k_tot ?a_C ?k_C ?x_C ?b_C ?t_C ?i_C ?s_C)
    (case a__lowest => k_is)
    (case l__lowest => k_is)
    (case c__lowest => k_is)
    (case k__lowest => k_is)
    (case a_plus => k_is)
    (case l_plus => k_is)
    (case c_plus => k_is)
    (case k_plus => k_is)
    (case a_minus => k_is)
    (case l_minus => k_is)
    (case c_minus => k_is)
    (case k_minus => k_is)
    (case a_times => k_is)
    (case l_times => k_is)
    (case c_times => k_is)
    (case k_times => k_is)
    (case a_over => k_is)
    (case l_over => k_is)
    (case c_over => k_is)
    (case k_over => k_is)
    (case a_compare => k_is)
    (case l_compare => k_is)
    (case c_compare => k_is)
    (case k_compare => k_is)
    (case a_floor_of => k_is)
    (case l_floor_of => k_is)
    (case c_floor_of => k_is)
    (case k_floor_of => k_is)
    (case a_part_of => k_is)
    (case l_part_of => k_is)
    (case c_part_of => k_is)
    (case k_part_of => k_is)
    (case a__law_deck => k_is)
    (case l__law_deck => k_is)
    (case c__law_deck => k_is)
    (case k__law_deck => k_is)
    (case a__law_take => k_is)
    (case l__law_take => k_is)
    (case c__law_take => k_is)
    (case k__law_take => k_is)
    (case a__law_frac => k_is)
    (case l__law_frac => k_is)
    (case c__law_frac => k_is)
    (case k__law_frac => k_is)
    (case a__law_plus => k_is)
    (case l__law_plus => k_is)
    (case c__law_plus => k_is)
    (case k__law_plus => k_is)
    (case a__law_minus => k_is)
    (case l__law_minus => k_is)
    (case c__law_minus => k_is)
    (case k__law_minus => k_is)
    (case a__law_times => k_is)
    (case l__law_times => k_is)
    (case c__law_times => k_is)
    (case k__law_times => k_is)
    (case a__law_part => k_is)
    (case l__law_part => k_is)
    (case c__law_part => k_is)
    (case k__law_part => k_is)
    (case a__law_number => k_is)
    (case l__law_number => k_is)
    (case c__law_number => k_is)
    (case k__law_number => k_is)
    (case a__law_fraction => k_is)
    (case l__law_fraction => k_is)
    (case c__law_fraction => k_is)
    (case k__law_fraction => k_is)
    (case a__law_over => k_is)
    (case l__law_over => k_is)
    (case c__law_over => k_is)
    (case k__law_over => k_is)
    (case a__law_right => k_is)
    (case l__law_right => k_is)
    (case c__law_right => k_is)
    (case k__law_right => k_is)
    (case a__law_total_right => k_is)
    (case l__law_total_right => k_is)
    (case c__law_total_right => k_is)
    (case k__law_total_right => k_is)
    (case a_law => k_is)
    (case l_law => k_is)
    (case c_law => k_is)
    (case k_law => k_is)
    (case z_abs => k_is)
    (case z_int => k_is)
    (case z_len => k_is)
    (case z_range => k_is)
    (case z_repr => k_is)
    (case z_gcd => k_is)
    (case a_tot => k_is)
    (case l_tot => k_is)
    (case c_tot => k_is)
    (case k_tot => k_is)
    (case a_C => k_is)
    (case k_C => k_is)
    (case x_C => first | k_exc | k_is)
    (case b_C => k_is)
    (case t_C => k_is)
    (case i_C => k_is)
    (case s_C => first | rfl | k_is)
