import PyProof.Rows.All
import Wide.All
import OpenK.AllK
import Wide.FinOn
import HandS.ForSpec
import HandS.ForMost
import HandS.Evl
import HandS.Wide
import HandS.Gcd
import HandS.Small
import HandS.TryOnly
import HandS.IsInst
import HandS.EndBits
import HandS.Style
import HandS.Star
import HandS.Defaults
import HandS.RaiseMore
import PyProof.ReprRoads
import PyProof.CallFns
import PyProof.ExcBaseAll.LookupError
import KE.KExcInit
import KE.KExcIs
import HandS.ExcInit
import HandS.ExcValue
import HandS.ExcSuper
import PySem.Challenge.RW_offscale_k55_errors_and_limits
set_option Elab.async false
set_option linter.all false
set_option maxRecDepth 100000
set_option maxHeartbeats 4000000
namespace Qj
open PySem PySem.Spec PyProof.Rows L2

/-! ### promises of defs that are called where no guard stands on the stack -/
structure FnG (P : Program) (w : World) (K : PySem.W.Frag) (mg : Str → Option Value) (base : Heap) (CX : CXT) (k : Nat) (f : Addr) (fd : FuncData) (ps : List Str) (sp : Sp) : Prop where
  len : ∀ as G Q E, sp as G Q E → as.length = ps.length
  go : ∀ (A : Around) (fr : List Env) (s : Shared) (H : Hp) (args : Args) (us : List Value) (as : List V) (Q : VK) (E : XK), Room k A → A.guards = some [] →
    Env0 P w K mg base A fr s H → BindsTo s fd args (ps.zip us) → Vals as us → sp as H Q E → codeAny (model P w) A (.call (.ref f) args) (CR CX fr P w H s Q E) s
section
variable {P : Program} {w : World} {K : PySem.W.Frag} {mg : Str → Option Value} {base : Heap} {CX : CXT}
theorem FnG.of {k : Nat} {f : Addr} {fd : FuncData} {ps : List Str} {sp : Sp} (F : FnOk P w K mg base CX k f fd ps sp) : FnG P w K mg base CX k f fd ps sp :=
  ⟨F.len, fun A fr s H args us as Q E r _ e b v h => F.run A fr s H args us as Q E r e b v h⟩
theorem FnG.up {j k : Nat} {f : Addr} {fd : FuncData} {ps : List Str} {sp : Sp} (F : FnG P w K mg base CX j f fd ps sp) (h : j ≤ k) : FnG P w K mg base CX k f fd ps sp :=
  ⟨F.len, fun A fr s H args us as Q E r g e b v z => F.go A fr s H args us as Q E (r.mono h) g e b v z⟩
theorem fnG_of {k : Nat} {f : Addr} {nm qual : Str} {prm : Arguments} {bd : List Stmt} {sc : Scope} {dV kV doc pm cdv ct oc : Value} {an od : Option Addr} {osl : Array (Option Value)} {N ps : List Str} {sp : Sp}
    (lk : K.lookup f = some ⟨oc, od, .func (PySem.W.fnOf nm qual prm bd sc dV kV doc pm an cdv ct), osl⟩) (cc : PySem.W.codeIn K cdv qual = true) (S : FnScope N ps sc) (len : ∀ as G Q E, sp as G Q E → as.length = ps.length)
    (hb : ∀ (A : Around) (fr : List Env) (s : Shared) (H : Hp) (as : List V) (Q : VK) (E : XK), Room k (A.deeper (envOfC qual sc s.heap.objs.size f cdv)) → A.guards = some [] → sp as H Q E →
      ∃ t, PSs (cxOf CX P w K mg base N qual sc f cdv A fr s H E) bd t ∧ t { nx := fun _ G => Q .non G, rt := Q } (start N as) H) :
    FnG P w K mg base CX (k + 1) f (PySem.W.fnOf nm qual prm bd sc dV kV doc pm an cdv ct) ps sp := by
  constructor
  · exact len
  · intro A fr s H args us as Q E rm gd e0 bt va hsp
    have la := len _ _ _ _ hsp
    have KS : K.In s.heap := e0.mod.kin.keeps (fun b o z => (e0.bs b o z).1)
    have NL : s.heap.NoLimit := e0.mod.nolimit.keeps (fun b o z => (e0.bs b o z).1)
    have kinds : ∀ q ∈ ps.zip us, sc.names.lookup q.1 = some .local ∨ (sc.names.lookup q.1 = some .cell ∧ ((cellsFrom (s.heap.objs.size + 1) sc.names []).lookup q.1).isSome = true) := by
      intro q hq
      obtain ⟨n, v⟩ := q
      have hn := (List.of_mem_zip hq).1
      cases S.par n hn with
      | inl z => exact Or.inl z
      | inr z => exact Or.inr ⟨z, PySem.W.cellsFrom_some _ _ _ (Or.inl z)⟩
    refine codeAny_call_function rm.depth (KS _ _ lk) rfl S.co S.gen rfl (PySem.W.codeRec_of KS cc) (bt _ _ _ _ ?_)
    refine wpAny_newFunctionEnv_cells S.kind kinds (fun ev he s1 x => ?_)
    cases he
    refine ⟨NL.keeps x.toInCall.keep, codeAny_func ?_⟩
    obtain ⟨t, pt, ht⟩ := hb A fr s H as Q E (rm.deeper _) gd hsp
    have I0 : Inv (cxOf CX P w K mg base N qual sc f cdv A fr s H E) [] (start N as) H s1 := inv_start S rm.hd e0 la va x
    have back : ∀ {τ : L2.St} {G : Hp} {v : V} {u : Value} {s2 : Shared}, Inv (cxOf CX P w K mg base N qual sc f cdv A fr s H E) [] τ G s2 → RelV v u → Q v G → CE fr P w H s Q u s2 := by
      intro τ G v u s2 J rv q
      exact ⟨v, G, J.os, J.bare, J.base, J.hok, rv, q⟩
    refine wpAny_mono (pt.run [] s1 (start N as) H _ I0 ht) (fun fl s2 hs => ?_) (fun e s2 hs => hs)
    cases fl with
    | ret u =>
      obtain ⟨v, τ, G, J, rv, q⟩ := hs
      exact back J rv q
    | next =>
      obtain ⟨τ, G, J, q⟩ := hs
      exact back (v := V.non) (u := Value.none) J rfl q
    | brk =>
      obtain ⟨_, _, _, q⟩ := hs
      exact q.elim
    | cont =>
      obtain ⟨_, _, _, q⟩ := hs
      exact q.elim
theorem okG {x qual : Str} {st : Stmt} {f : Addr} {fd : FuncData} {N ps : List Str} {k : Nat} {sp : Sp} (F : Fun K x qual st f fd) (S : FnScope N ps (defScope st)) (len : ∀ as G Q E, sp as G Q E → as.length = ps.length)
    (hb : ∀ (cdv : Value) (A : Around) (fr : List Env) (s : Shared) (H : Hp) (as : List V) (Q : VK) (E : XK), Room k (A.deeper (envOfC qual (defScope st) s.heap.objs.size f cdv)) → A.guards = some [] → sp as H Q E →
      ∃ t, PSs (cxOf CX P w K mg base N qual (defScope st) f cdv A fr s H E) (defBody st) t ∧ t { nx := fun _ G => Q .non G, rt := Q } (start N as) H) : FnG P w K mg base CX (k + 1) f fd ps sp := by
  obtain ⟨oc, od, kV, doc, pm, an, cdv, ct, osl, e, lk, cc⟩ := F.ex
  subst e
  exact fnG_of lk cc S len (fun A fr s H as Q E r g h => hb cdv A fr s H as Q E r g h)
end
section
variable {X : Cx} {CX : CXT} {k : Nat} {f : Addr} {fd : FuncData} {ps : List Str} {sp : Sp} {dvs : List V} {ds : List Value} {E : XK} {x : Str} {p pos : Pos} {e : Expr} {es : List Expr} {t : TA}
theorem run_g {pins : List (Addr × Obj)} {σ : L2.St} {H : Hp} {s : Shared} {Q : VK} {us : List Value} {as : List V} (F : FnG X.prog X.w X.K X.mg X.base CX k f fd ps sp) (rm : Room k X.A) (gd : X.A.guards = some []) (hb : Binds X.K fd ps ds)
    (hd : Vals dvs ds) (hx : Passes CX X E) (I : Inv X pins σ H s) (r : Vals as us) (h : sp (as ++ dvs) H Q E) : wpAny (model X.prog X.w) X.A (call (.ref f) us) (EP X pins σ Q) X.xe s := by
  have both : Vals (as ++ dvs) (us ++ ds) := r.append hd
  have hl : (us ++ ds).length = ps.length := both.length.symm.trans (F.len _ _ _ _ h)
  have c := F.go X.A X.stack s H ⟨us, []⟩ (us ++ ds) (as ++ dvs) Q E rm gd I.env0 (hb s us I.kIn hl) both h
  refine wpAny_call (codeAny_mono c (fun r2 s2 hq => ?_))
  cases r2 with
  | error e2 => exact hx pins σ H s e2 s2 I hq
  | ok fl =>
    cases fl with
    | ret u => exact I.after hq
    | next => exact hq.elim
    | brk => exact hq.elim
    | cont => exact hq.elim
theorem pe_callG (F : FnG X.prog X.w X.K X.mg X.base CX k f fd ps sp) (rm : Room k X.A) (gd : X.A.guards = some []) (hg : Gl X x) (hm : X.mg x = some (.ref f)) (kp : PySem.W.keepIn X.K (.ref f) = true) (hb : Binds X.K fd ps ds) (hd : Vals dvs ds) (hx : Passes CX X E)
    (ha : PA X (e :: es) t) (h1 : (x == ("__debug__" : Str)) = false := by decide) (h2 : starEach (e :: es) X.env = (false, eval e X.env) :: starEach es X.env := by rfl) (h3 : (backTo pos (starEach es X.env)).any (·.1) = false := by rfl) :
    PE X (.Call (.Name x p) (e :: es) [] pos) (tCall sp dvs E t) := by
  constructor
  intro pins s σ H Q I h
  refine wpAny_Call_Name_kw (ld_glob I hg hm ?_ h1)
  exact PySem.W.callWith_K (h₀ := X.base) I.ok.mod.kin kp (thn (ha.run pos pins s σ H _ I h) (fun us s1 z => by
    obtain ⟨vs, H1, I1, r, q⟩ := z
    exact ⟨I1.kIn, run_g F rm gd hb hd hx I1 r q⟩)) h2 h3

/-- C(), C an own exception class without own __init__ -/
theorem pmk_own0 {C : Addr} {bmB : List Value} {B newId initId : String} (F : ExcBaseFacts B newId initId bmB) (q : PySem.W.excIn X.K C bmB newId = true) (gC : X.mg x = some (.ref C))
    (kC : PySem.W.keepIn X.K (.ref C) = true) (r : Raises X (.ref C)) (hg : Gl X x) (h1 : (x == ("__debug__" : Str)) = false := by decide) :
    PMk X (.Call (.Name x p) [] [] pos) (fun _ H Q => Q (.ref C) none H) := by
  intro pins s σ H Q I h
  refine wpAny_Call_Name_kw (ld_glob I hg gC ?_ h1)
  refine PySem.W.callWith_K0 I.kIn kC ?_
  obtain ⟨bm, N, nm, qn, bs, hdct, sn, sub, ab, col, dd, k0, k1, k2, k3, k5, mN, hC, hN, hni, T⟩ := exc_obj I.kIn q
  show wpAny _ _ (call (.ref C) []) _ _ _
  refine wpAny_call_exc_subT F T hC hN hni (fun h' e2 hm => ?_) (Nat.zero_le _)
  exact mk_of I hm r h (I.hok.gone hm.new)

end

/-! ### repr of data -/
/-- small enough data: n its weight, m its depth -/
structure Okd (d : PyData) (n m : Nat) : Prop where
  sh : d.showable = true
  nd : d.hasDict = false
  lv : d.leavesShort 1001 = true
  wt : d.weight ≤ n
  dp : d.depth ≤ m
structure OkA (ds : List PyData) (n m : Nat) : Prop where
  sh : PyData.showableAll ds = true
  nd : PyData.hasDictAll ds = false
  lv : PyData.leavesShortAll 1001 ds = true
  wt : PyData.weightAll ds ≤ n
  dp : PyData.depthAll ds ≤ m
theorem okd_int {i : Int} {k : Nat} (h : i.natAbs < 2 ^ k) (h0 : 0 < k) (hk : k ≤ 1000) : Okd (.int i) k 0 := by
  have hl : i.natAbs.log2 < k := PySem.Flt.log2_lt_of h0 h
  refine ⟨?_, ?_, ?_, ?_, ?_⟩
  · simp only [PyData.showable, decide_eq_true_eq]
    omega
  · simp only [PyData.hasDict]
  · simp only [PyData.leavesShort, decide_eq_true_eq]
    show (Str.ofString (toString i)).length ≤ 1001
    have e := int_text_length_le (a := i) (k := 1000) (by decide) (by omega)
    rw [PySem.ofString_length]
    exact e
  · simp only [PyData.weight]
    split
    · omega
    · omega
  · simp only [PyData.depth]
    omega
theorem okd_bl {b : Bool} : Okd (.bool b) 0 0 := by
  refine ⟨?_, ?_, ?_, ?_, ?_⟩
  · simp only [PyData.showable]
  · simp only [PyData.hasDict]
  · simp only [PyData.leavesShort]
  · simp only [PyData.weight]; omega
  · simp only [PyData.depth]; omega
theorem okd_non : Okd .none 0 0 := by
  refine ⟨?_, ?_, ?_, ?_, ?_⟩
  · simp only [PyData.showable]
  · simp only [PyData.hasDict]
  · simp only [PyData.leavesShort]
  · simp only [PyData.weight]; omega
  · simp only [PyData.depth]; omega
theorem oka_nil : OkA [] 0 0 := by
  refine ⟨?_, ?_, ?_, ?_, ?_⟩
  · simp only [PyData.showableAll]
  · simp only [PyData.hasDictAll]
  · simp only [PyData.leavesShortAll]
  · simp only [PyData.weightAll]; omega
  · simp only [PyData.depthAll]; omega
theorem oka_cons {d : PyData} {ds : List PyData} {a b n m : Nat} (h : Okd d a b) (t : OkA ds n m) : OkA (d :: ds) (a + 1 + n) (max b m) := by
  refine ⟨?_, ?_, ?_, ?_, ?_⟩
  · simp only [PyData.showableAll, h.sh, t.sh, Bool.and_self]
  · simp only [PyData.hasDictAll, h.nd, t.nd, Bool.or_self]
  · simp only [PyData.leavesShortAll, h.lv, t.lv, Bool.and_self]
  · simp only [PyData.weightAll]
    have := h.wt
    have := t.wt
    omega
  · simp only [PyData.depthAll]
    have := h.dp
    have := t.dp
    omega
theorem okd_tup {ds : List PyData} {n m : Nat} (t : OkA ds n m) : Okd (.tuple ds) n (m + 1) := by
  refine ⟨?_, ?_, ?_, ?_, ?_⟩
  · simp only [PyData.showable, t.sh]
  · simp only [PyData.hasDict, t.nd]
  · simp only [PyData.leavesShort, t.lv]
  · simp only [PyData.weight]
    exact t.wt
  · simp only [PyData.depth]
    have := t.dp
    omega
theorem okd_lst {ds : List PyData} {n m : Nat} (t : OkA ds n m) : Okd (.list ds) n (m + 1) := by
  refine ⟨?_, ?_, ?_, ?_, ?_⟩
  · simp only [PyData.showable, t.sh]
  · simp only [PyData.hasDict, t.nd]
  · simp only [PyData.leavesShort, t.lv]
  · simp only [PyData.weight]
    exact t.wt
  · simp only [PyData.depth]
    have := t.dp
    omega
theorem Okd.size {d : PyData} {n m : Nat} (h : Okd d n m) (hn : n ≤ 16000) : d.shown.length ≤ sizeLine := by
  have e := PyData.shown_le 1001 (by decide) d h.lv
  have := h.wt
  rw [sizeLine_eq]
  omega
def rRepr (K : PySem.W.Frag) : List V → Hp → VK → Prop := fun xs H Q => ∃ (v : V) (d : PyData) (n m : Nat), xs = [v] ∧ Dp K H v d ∧ Okd d n m ∧ n ≤ 16000 ∧ m ≤ 60 ∧ Q (.str d.shown) H
section
variable {X : Cx}
theorem cr_repr (hg : X.A.guards = some []) (hu : X.A.units + 64 < cLine) : CallR X (.builtin "repr") (rRepr X.K) := by
  intro pins s σ H xs us Q I r h
  obtain ⟨v, d, n, m, e, hd, ok, hn, hm, q⟩ := h
  subst e
  obtain ⟨u, hus, ru⟩ := vals1 r
  subst hus
  have sz := ok.size hn
  obtain ⟨as, rd⟩ := Dp.reads I d v u hd ru
  have hd2 := ok.dp
  cases rd with
  | none => exact PySem.P.repr_of_none ⟨.str _, H, I.tok _, ⟨_, rfl⟩, q⟩
  | bool b =>
    refine PySem.P.repr_of_bool ⟨.str _, H, I.tok _, ⟨_, rfl⟩, ?_⟩
    exact q
  | int i t =>
    have hs := ok.sh
    simp only [PyData.showable, decide_eq_true_eq] at hs
    exact PySem.P.repr_of_int hs ⟨.str _, H, I.tok _, ⟨_, rfl⟩, q⟩
  | str x t => exact PySem.P.repr_of_str ⟨.str _, H, I.tok _, ⟨_, rfl⟩, q⟩ sz
  | list a b c e =>
    exact repr_of_reads' (.list a b c e) ok.sh (fun z => by rw [ok.nd] at z; cases z) hg (by omega) (fun _ _ z => z) (fun h' u2 tk k => ⟨.str _, H, I.kept k, ⟨_, rfl⟩, q⟩) sz
  | tuple a b c e =>
    exact repr_of_reads' (.tuple a b c e) ok.sh (fun z => by rw [ok.nd] at z; cases z) hg (by omega) (fun _ _ z => z) (fun h' u2 tk k => ⟨.str _, H, I.kept k, ⟨_, rfl⟩, q⟩) sz
  | dict a b c e f =>
    have z := ok.nd
    simp only [PyData.hasDict] at z
    cases z
end
end Qj
namespace Qj
open PySem PySem.Spec PyProof.Rows L2
/-! ### a def of the text, where it stands -/
structure Def (K : PySem.W.Frag) (mg : Str → Option Value) (x : Str) (st : Stmt) (ps : List Str) where
  f : Addr
  fd : FuncData
  F : Fun K x x st f fd
  g : mg x = some (.ref f)
  b : Binds K fd ps []
def def_mk {K : PySem.W.Frag} {mg : Str → Option Value} {h : Heap} {x : Str} {st : Stmt} {ps : List Str} (X : K.In h) (G : h.Ns mainGlobals mg) {f : Addr} {oc : Value} {od an : Option Addr} {osl : Array (Option Value)} {kV dc pm cd ct : Value}
    (a : PySem.W.nsIn K mainGlobals x = some (some (.ref f))) (l : K.lookup f = some ⟨oc, od, .func (PySem.W.fnOf x x (defArgs st) (defBody st) (defScope st) .none kV dc pm an cd ct), osl⟩) (c : PySem.W.codeIn K cd x = true) (k : PySem.W.keepIn K (.ref f) = true)
    (hb : ∀ (kV doc pm : Value) (an : Option Addr) (cdv ct : Value) (us : List Value), us.length = ps.length → bindArgs (PySem.W.fnOf x x (defArgs st) (defBody st) (defScope st) .none kV doc pm an cdv ct) ⟨us, []⟩ = pure (ps.zip us)) : Def K mg x st ps where
  f := f
  fd := PySem.W.fnOf x x (defArgs st) (defBody st) (defScope st) .none kV dc pm an cd ct
  F := fun_mk l c k
  g := PySem.W.mg_of X G a
  b := (fun_mk (x := x) (qual := x) (st := st) l c k).binds hb

/-! ### heaps that grow -/
theorem ex_new {H : Hp} {p : Addr} {o : HO} (h : H p = none) : Evl.Ex H (upd H p o) := Evl.Ex.new h
/-- all but D stands -/
def Bu (D : Addr) (H H' : Hp) : Prop := ∀ a o, a ≠ D → H a = some o → H' a = some o
theorem Bu.refl (D : Addr) (H : Hp) : Bu D H H := fun _ _ _ h => h
theorem Bu.trans {D : Addr} {H H1 H2 : Hp} (a : Bu D H H1) (b : Bu D H1 H2) : Bu D H H2 := fun x o n h => b x o n (a x o n h)
theorem Bu.of {D : Addr} {H H' : Hp} (e : Evl.Ex H H') : Bu D H H' := fun a o _ h => e a o h
theorem Bu.upd {D : Addr} {H : Hp} {o : HO} : Bu D H (upd H D o) := fun a u n h => by
  rw [upd_ne n]
  exact h
theorem Bu.new {D p : Addr} {H : Hp} {o : HO} (h : H p = none) : Bu D H (L2.upd H p o) := Bu.of (ex_new h)
/-- the drawn deck stands at D -/
def DeckAt (H : Hp) (D : Addr) : Prop := ∃ g m c : Int, H D = some (.lst [.int g, .int m, .int c]) ∧ -(2 ^ 62) < m ∧ m < 2 ^ 62
theorem DeckAt.ex {H H' : Hp} {D : Addr} (d : DeckAt H D) (e : Evl.Ex H H') : DeckAt H' D := by
  obtain ⟨g, m, c, h, b⟩ := d
  exact ⟨g, m, c, e _ _ h, b⟩
theorem DeckAt.ne {H : Hp} {D p : Addr} (d : DeckAt H D) (h : H p = none) : p ≠ D := by
  obtain ⟨g, m, c, e, _⟩ := d
  exact (ne_of_none e h).symm

/-! ### operators -/
def CDivA (_ j : Int) : Prop := j ≠ 0 ∧ j.natAbs.log2 < 9000
section
variable {X : Cx}
theorem op_fdivA : OpR X (binaryOp .FloorDiv) (rI CDivA fun i j => .int (i.fdiv j)) := opI fun i j _ _ _ _ _ hc q => floordiv_int hc.1 q (.inl (PyProof.noPylong_of_log2 hc.2))
end
/-! ### the promises that all laws' helpers share -/
theorem sz4 {n : Nat} (h : Nat.ble n 1000 = true := by rfl) : n ≤ sizeLine := Nat.le_trans (Nat.le_of_ble_eq_true h) (by decide)
def spTake : Sp := fun vs H Q _ => ∃ (D : Addr) (lim : Int), vs = [.ref D, .int lim] ∧ DeckAt H D ∧ 0 < lim ∧ lim < 2 ^ 63 ∧ ∀ (v : Int) (H' : Hp), 0 ≤ v → v < lim → Bu D H H' → DeckAt H' D → Q (.int v) H'
def spDeck (K : PySem.W.Frag) : Sp := fun vs H Q _ => ∃ (a : Addr) (ns : List Int), vs = [.ref a] ∧ SqL K H a (ns.map V.int) ∧ ns.length ≤ 63 ∧ ∀ (D : Addr) (H' : Hp), H D = none → Evl.Ex H H' → DeckAt H' D → Q (.ref D) H'
/-- lowest terms, the bottom above nought -/
def fr (t b : Int) : Int × Int := ((if 0 < b then 1 else -1) * t / ((Nat.gcd t.natAbs b.natAbs : Nat) : Int), (if 0 < b then 1 else -1) * b / ((Nat.gcd t.natAbs b.natAbs : Nat) : Int))
def frV (x : Int × Int) : HO := .tup [.int x.1, .int x.2]
def spFrac : Sp := fun vs H Q _ => ∃ t b : Int, vs = [.int t, .int b] ∧ b ≠ 0 ∧ t.natAbs < 2 ^ 8000 ∧ b.natAbs < 2 ^ 8000 ∧ ∀ p H', H p = none → Evl.Ex H H' → H' p = some (frV (fr t b)) → Q (.ref p) H'
def WF (t b : Int) (H : Hp) (m : Nat) (σ : L2.St) (H' : Hp) : Prop := ∃ x y : Int, σ = [some (.int t), some (.int b), some (.int x), some (.int y), none] ∧ 0 ≤ x ∧ 0 ≤ y ∧ Nat.gcd x.natAbs y.natAbs = Nat.gcd t.natAbs b.natAbs ∧ m = y.natAbs ∧ H' = H
theorem gcd_pos (t : Int) {b : Int} (h : b ≠ 0) : 0 < Nat.gcd t.natAbs b.natAbs := Nat.gcd_pos_of_pos_right _ (by omega)
theorem gcd_lt (t : Int) {b : Int} {k : Nat} (h : b ≠ 0) (hb : b.natAbs < k) : Nat.gcd t.natAbs b.natAbs < k := Nat.lt_of_le_of_lt (Nat.gcd_le_right _ (by omega)) hb
theorem gcd_abs (t b : Int) : Nat.gcd (if t < 0 then -t else t).natAbs (if b < 0 then -b else b).natAbs = Nat.gcd t.natAbs b.natAbs := by
  have e : ∀ x : Int, (if x < 0 then -x else x).natAbs = x.natAbs := fun x => by split <;> omega
  rw [e, e]
theorem gcd_step {x y : Int} (hx : 0 ≤ x) (hy : 0 < y) : Nat.gcd y.natAbs (x % y).natAbs = Nat.gcd x.natAbs y.natAbs := by
  obtain ⟨a, rfl⟩ := Int.eq_ofNat_of_zero_le hx
  obtain ⟨b, rfl⟩ := Int.eq_ofNat_of_zero_le (Int.le_of_lt hy)
  have e : ((a : Int) % (b : Int)).natAbs = a % b := by
    rw [← Int.natCast_emod]
    exact Int.natAbs_natCast _
  rw [e, Int.natAbs_natCast, Int.natAbs_natCast, Nat.gcd_comm b (a % b), ← Nat.gcd_rec b a, Nat.gcd_comm]
theorem cut_int {ns : List Int} {lo hi : Option Int} {i : Nat} {x : V} (h : (cutV (ns.map V.int) lo hi)[i]? = some x) : ∃ n, x = .int n := by
  have m1 := List.mem_of_getElem? h
  unfold cutV at m1
  have m2 := List.mem_of_mem_drop (List.mem_of_mem_take m1)
  obtain ⟨n, _, e⟩ := List.mem_map.mp m2
  exact ⟨n, e.symm⟩
end Qj
namespace Qj
open PySem PySem.Spec PyProof.Rows L2
/-! ### values of any kind -/
inductive Kd where
  | non | bl | int | str | tup | lst | dic
  deriving DecidableEq
def Kd.nm : Kd → String
  | .non => "NoneType" | .bl => "bool" | .int => "int" | .str => "str" | .tup => "tuple" | .lst => "list" | .dic => "dict"
def Kd.isInt : Kd → Bool
  | .int => true
  | _ => false
inductive Kn (H : Hp) : V → Kd → Prop where
  | non : Kn H .non .non
  | bl (b : Bool) : Kn H (.bl b) .bl
  | int (i : Int) : Kn H (.int i) .int
  | str (x : Str) : Kn H (.str x) .str
  | tup {a : Addr} {xs : List V} (h : H a = some (.tup xs)) : Kn H (.ref a) .tup
  | lst {a : Addr} {xs : List V} (h : H a = some (.lst xs)) : Kn H (.ref a) .lst
  | dic {a : Addr} {kvs : List (Key × V)} (h : H a = some (.dK kvs)) : Kn H (.ref a) .dic
theorem Kn.ex {H H' : Hp} {x : V} {k : Kd} (h : Kn H x k) (e : Evl.Ex H H') : Kn H' x k := by
  cases h with
  | non => exact .non
  | bl b => exact .bl b
  | int i => exact .int i
  | str x => exact .str x
  | tup h => exact .tup (e _ _ h)
  | lst h => exact .lst (e _ _ h)
  | dic h => exact .dic (e _ _ h)
theorem Kn.ty {K : PySem.W.Frag} {H : Hp} {x : V} {k : Kd} (h : Kn H x k) : TyX K H x (.type k.nm) := by
  cases h with
  | non => exact .base .non
  | bl b => exact .base (.bl b)
  | int i => exact .base (.int i)
  | str x => exact .base (.str x)
  | tup h => exact .base (.tup h)
  | lst h => exact .base (.lst h)
  | dic h => exact .base (.dK h)
theorem kd_int (K : PySem.W.Frag) (k : Kd) : PySem.W.kitOne K (.type k.nm) (.type "int") = some (k.isInt || k == .bl) := by
  cases k <;> exact kit_ty (by decide +kernel)
theorem kd_bool (K : PySem.W.Frag) (k : Kd) : PySem.W.kitOne K (.type k.nm) (.type "bool") = some (k == .bl) := by
  cases k <;> exact kit_ty (by decide +kernel)
theorem kd_tup (K : PySem.W.Frag) (k : Kd) : PySem.W.kitOne K (.type k.nm) (.type "tuple") = some (k == .tup) := by
  cases k <;> exact kit_ty (by decide +kernel)
def spWhole : Sp := fun vs H Q _ => ∃ (x : V) (k : Kd), vs = [x] ∧ Kn H x k ∧ Q (.bl k.isInt) H
/-- is_fraction's answers -/
inductive FrQ (H : Hp) : V → Bool → Prop where
  | no {x : V} {k : Kd} : Kn H x k → (k == .tup) = false → FrQ H x false
  | len {a : Addr} {xs : List V} : H a = some (.tup xs) → xs.length ≠ 2 → FrQ H (.ref a) false
  | two {a : Addr} {x y : V} {k l : Kd} : H a = some (.tup [x, y]) → Kn H x k → Kn H y l → (k.isInt && l.isInt) = false → FrQ H (.ref a) false
  | int {a : Addr} {t b : Int} : H a = some (.tup [.int t, .int b]) → FrQ H (.ref a) (decide (1 ≤ b) && decide (((Nat.gcd t.natAbs b.natAbs : Nat) : Int) = 1))
def spIsFr : Sp := fun vs H Q _ => ∃ (x : V) (b : Bool), vs = [x] ∧ FrQ H x b ∧ Q (.bl b) H
/-- fraction: E at the class C where there is none -/
def spFraction (C : Addr) : Sp := fun vs H Q E => ∃ (x y : V) (k l : Kd), vs = [x, y] ∧ Kn H x k ∧ Kn H y l ∧
  ((k.isInt && l.isInt) = false → E (.ref C) none H) ∧
  ∀ t b : Int, x = .int t → y = .int b → (b = 0 → E (.ref C) none H) ∧ (b ≠ 0 → t.natAbs < 2 ^ 8000 ∧ b.natAbs < 2 ^ 8000 ∧ ∀ p H', H p = none → Evl.Ex H H' → H' p = some (frV (fr t b)) → Q (.ref p) H')

theorem ne_of_test {i j : Int} (h : ¬ (!decide (V.int i = V.int j)) = true) : i = j := by
  by_cases e : V.int i = V.int j
  · exact V.int.inj e
  · rw [decide_eq_false e] at h
    exact absurd rfl h
theorem eq_of_test {i j : Int} (h : decide (V.int i = V.int j) = true) : i = j := V.int.inj (of_decide_eq_true h)
theorem eq_of_test' {i j : Int} (h : ¬ decide (V.int i = V.int j) = true) : i ≠ j := fun e => h (decide_eq_true (by rw [e]))
theorem dec_int {i j : Int} : decide (V.int i = V.int j) = decide (i = j) := by
  by_cases e : i = j
  · subst e
    rw [decide_eq_true rfl, decide_eq_true rfl]
  · rw [decide_eq_false e, decide_eq_false (fun z => e (V.int.inj z))]
theorem passX0 {X : Cx} : Passes (L2.CX X.prog X.w) X E0 := by
  intro pins σ H s e s' I h
  obtain ⟨a, B, H', cls, d, _, _, _, _, _, _, _, z⟩ := h
  exact z.elim
def refused : Str := "refused"
def frD (x : Int × Int) : PyData := .tuple [.int x.1, .int x.2]
theorem dp_fr {K : PySem.W.Frag} {H : Hp} {p : Addr} {x : Int × Int} (h : H p = some (frV x)) : Dp K H (.ref p) (frD x) := .tup (SqT.of h) (.cons (.int _) (.cons (.int _) .nil))
theorem okd_fr {x : Int × Int} {k : Nat} (h1 : x.1.natAbs < 2 ^ k) (h2 : x.2.natAbs < 2 ^ k) (h0 : 0 < k) (hk : k ≤ 1000) : Okd (frD x) (k + 1 + (k + 1 + 0)) (max 0 (max 0 0) + 1) := okd_tup (oka_cons (okd_int h1 h0 hk) (oka_cons (okd_int h2 h0 hk) oka_nil))
/-- what _law_made tells -/
inductive MadeQ : V → V → Kd → Kd → Str → Prop where
  | odd {x y : V} {k l : Kd} : (k.isInt && l.isInt) = false → MadeQ x y k l refused
  | zero {t : Int} : MadeQ (.int t) (.int 0) .int .int refused
  | fr {t b : Int} : b ≠ 0 → t.natAbs < 2 ^ 400 → b.natAbs < 2 ^ 400 → MadeQ (.int t) (.int b) .int .int (frD (Qj.fr t b)).shown
def spMade : Sp := fun vs H Q _ => ∃ (x y : V) (k l : Kd) (r : Str), vs = [x, y] ∧ Kn H x k ∧ Kn H y l ∧ MadeQ x y k l r ∧ ∀ H', Evl.Ex H H' → Q (.str r) H'
def spNumber : Sp := fun vs H Q _ => ∃ (D : Addr) (k : Int), vs = [.ref D, .int k] ∧ DeckAt H D ∧ 0 ≤ k ∧ k < 4 ∧ ∀ (n : Int) (H' : Hp), n.natAbs ≤ 10 ^ 18 → Bu D H H' → DeckAt H' D → Q (.int n) H'
def spOdd : Sp := fun vs H Q _ => ∃ (D : Addr) (t b : Int), vs = [.ref D, .int t, .int b] ∧ DeckAt H D ∧ ∀ (x : V) (k : Kd) (H' : Hp), Kn H' x k → k.isInt = false → Bu D H H' → DeckAt H' D → Q x H'
def spTold : Sp := fun vs H Q _ => ∃ t b : Int, vs = [.int t, .int b] ∧ t.natAbs < 2 ^ 400 ∧ b.natAbs < 2 ^ 400 ∧ ∀ H', Evl.Ex H H' → Q (.bl (decide (1 ≤ b) && decide (((Nat.gcd t.natAbs b.natAbs : Nat) : Int) = 1))) H'
theorem pow_le8000 {n k : Nat} (h : n < 2 ^ k) (hk : k ≤ 8000) : n < 2 ^ 8000 := Nat.lt_of_lt_of_le h (Nat.pow_le_pow_right (by decide) hk)
theorem cr_reprK {X : Cx} (K : PySem.W.Frag) (hK : X.K = K) (hg : X.A.guards = some []) (hu : X.A.units + 64 < cLine) : CallR X (.builtin "repr") (rRepr K) := by
  subst hK
  exact cr_repr hg hu
theorem shaped_fr (x : Int × Int) : SeqAt.shaped (frD x) = true := by
  unfold frD SeqAt.shaped
  simp [PyData.canLay0, PyData.canLayAll0, PyData.depth, PyData.depthAll]
theorem eqv_fr (x y : Int × Int) : PyData.eqv (frD x) (frD y) = decide (x.1 = y.1 ∧ x.2 = y.2) := by
  unfold frD
  simp only [PyData.eqv, PyData.eqvAll]
  by_cases h1 : x.1 = y.1
  · by_cases h2 : x.2 = y.2
    · rw [h1, h2]; simp
    · simp [h1, h2]
  · simp [h1]
theorem num_le {v L : Int} (h0 : 0 ≤ v) (h1 : v < 2 * L + 1) (hL : L ≤ 10 ^ 18) : (v - L).natAbs ≤ 10 ^ 18 := by omega
theorem OkA.mono {ds : List PyData} {n m n' m' : Nat} (h : OkA ds n m) (a : n ≤ n') (b : m ≤ m') : OkA ds n' m' := ⟨h.sh, h.nd, h.lv, Nat.le_trans h.wt a, Nat.le_trans h.dp b⟩
theorem Okd.mono {d : PyData} {n m n' m' : Nat} (h : Okd d n m) (a : n ≤ n') (b : m ≤ m') : Okd d n' m' := ⟨h.sh, h.nd, h.lv, Nat.le_trans h.wt a, Nat.le_trans h.dp b⟩
theorem dpall_rep {K : PySem.W.Frag} {H : Hp} {b : Bool} : ∀ n : Nat, DpAll K H (List.replicate n (.bl b)) (List.replicate n (.bool b))
  | 0 => .nil
  | n + 1 => .cons (.bl b) (dpall_rep n)
theorem oka_rep {b : Bool} : ∀ n : Nat, OkA (List.replicate n (.bool b)) n 0
  | 0 => oka_nil
  | n + 1 => (oka_cons okd_bl (oka_rep n)).mono (by omega) (by decide)
theorem FrQ.ex {H H' : Hp} {x : V} {b : Bool} (h : FrQ H x b) (e : Evl.Ex H H') : FrQ H' x b := by
  cases h with
  | no k hn => exact .no (k.ex e) hn
  | len a hl => exact .len (e _ _ a) hl
  | two a hx hy hb => exact .two (e _ _ a) (hx.ex e) (hy.ex e) hb
  | int a => exact .int (e _ _ a)
def spRight : Sp := fun vs H Q _ => ∃ (D : Addr) (t b : Int), vs = [.ref D, .int t, .int b] ∧ DeckAt H D ∧ t.natAbs < 2 ^ 400 ∧ b.natAbs < 2 ^ 400 ∧ ∀ H', Bu D H H' → DeckAt H' D → Q (.bl true) H'
theorem made_any {t b : Int} (ht : t.natAbs < 2 ^ 400) (hb : b.natAbs < 2 ^ 400) : b ≠ 0 → MadeQ (.int t) (.int b) .int .int (frD (Qj.fr t b)).shown := fun h => .fr h ht hb
/-! ### lowest terms -/
theorem dvd_t (t b : Int) : ((Nat.gcd t.natAbs b.natAbs : Nat) : Int) ∣ t := Int.ofNat_dvd_left.mpr (Nat.gcd_dvd_left _ _)
theorem dvd_b (t b : Int) : ((Nat.gcd t.natAbs b.natAbs : Nat) : Int) ∣ b := Int.ofNat_dvd_left.mpr (Nat.gcd_dvd_right _ _)
theorem fdiv_pos {t g : Int} (hg : 0 < g) : t.fdiv g = t / g := Int.fdiv_eq_ediv_of_nonneg t (by omega)
theorem fdiv_neg {t g : Int} (hd : g ∣ t) : t.fdiv (-g) = -1 * t / g := by
  rw [Int.fdiv_eq_ediv_of_dvd (Int.neg_dvd.mpr hd), Int.ediv_neg, Int.neg_mul, Int.one_mul, Int.neg_ediv_of_dvd hd]
theorem gcd_one (t : Int) : Nat.gcd t.natAbs (1 : Int).natAbs = 1 := Nat.gcd_one_right _
theorem fr_one (t : Int) : fr t 1 = (t, 1) := by
  unfold fr
  rw [gcd_one, if_pos (by decide)]
  show (1 * t / 1, (1 : Int) * 1 / 1) = (t, 1)
  rw [Int.one_mul, Int.ediv_one]
  rfl
/-- what is told of a pair -/
theorem told_eq {t b : Int} (hb : 0 < b) : (decide (1 ≤ b) && decide (((Nat.gcd t.natAbs b.natAbs : Nat) : Int) = 1)) = decide ((fr t b).1 = t ∧ (fr t b).2 = b) := by
  rw [decide_eq_true (show 1 ≤ b by omega), Bool.true_and]
  by_cases h : ((Nat.gcd t.natAbs b.natAbs : Nat) : Int) = 1
  · rw [decide_eq_true h, eq_comm, decide_eq_true_eq]
    unfold fr
    rw [if_pos hb, h, Int.one_mul, Int.one_mul, Int.ediv_one, Int.ediv_one]
    exact ⟨rfl, rfl⟩
  · rw [decide_eq_false h, eq_comm, decide_eq_false_iff_not]
    rintro ⟨_, h2⟩
    unfold fr at h2
    rw [if_pos hb, Int.one_mul, Int.one_mul] at h2
    dsimp only at h2
    have d := dvd_b t b
    have e := Int.ediv_mul_cancel d
    rw [h2] at e
    have e2 : b * ((Nat.gcd t.natAbs b.natAbs : Nat) : Int) = b * 1 := by rw [e, Int.mul_one]
    exact h (Int.eq_of_mul_eq_mul_left (by omega) e2)
theorem fr_lt {t b : Int} {k : Nat} (hb : b ≠ 0) (h1 : t.natAbs < 2 ^ k) (h2 : b.natAbs < 2 ^ k) : (fr t b).1.natAbs < 2 ^ k ∧ (fr t b).2.natAbs < 2 ^ k := by
  have key : ∀ x : Int, x.natAbs < 2 ^ k → ((if 0 < b then 1 else -1) * x / ((Nat.gcd t.natAbs b.natAbs : Nat) : Int)).natAbs < 2 ^ k := by
    intro x hx
    refine Nat.lt_of_le_of_lt ?_ hx
    have e : ((if 0 < b then 1 else -1) * x).natAbs = x.natAbs := by
      split
      · rw [Int.one_mul]
      · rw [Int.neg_mul, Int.one_mul, Int.natAbs_neg]
    have l := Int.natAbs_ediv_le_natAbs ((if 0 < b then 1 else -1) * x) ((Nat.gcd t.natAbs b.natAbs : Nat) : Int)
    omega
  exact ⟨key t h1, key b h2⟩
end Qj
namespace Qj
open PySem PySem.Spec PyProof.Rows L2
/-! ### the end of a law whose def is promised where no guard stands -/
section
variable {P : Program} {w : World} {K : PySem.W.Frag} {mg mb : Str → Option Value} {CX : CXT} {k : Nat} {fa a : Addr} {fd : FuncData} {x : Str} {sp : Sp} {s1 : Shared} {us : List Value} {ns : List Int}
/-- the law runs from an abstract heap in which at most the script is tracked -/
theorem lawG_core (kin : K.In s1.heap) (g0 : s1.heap.Ns mainGlobals mg) (bn : s1.heap.Ns builtinsNs mb) (bb : ∀ y : Str, y ≠ "__name__" → mb y = bootBuiltins y) (nl : s1.heap.NoLimit) (gz : s1.gens = #[])
    (at_a : s1.heap.get? a = some { cls := .type "list", data := .seq us.toArray }) (rm : Room k callerA)
    (F : ∀ base : Heap, K.In base → base.Ns mainGlobals mg → FnG P w K mg base CX k fa fd [x] sp) (bind : ∀ (s : Shared) (u : Value), BindsTo s fd ⟨[u], []⟩ [(x, u)])
    (H : Hp) (only : Only H) (hsp : sp [.ref a] H (fun v _ => v = .bl true) fun _ _ _ => False) (hok : HOk P w H s1.heap) (own : ∀ b, H b ≠ none → b = a) (outK : H a ≠ none → K.lookup a = none)
    (noX : ∀ e s2, CX [] H s1 (fun _ _ _ => False) e s2 → False) :
    codeAny (model P w) callerA (.call (.ref fa) ⟨[.ref a], []⟩) (fun r s2 => r = .ok (.ret (.bool true)) ∧ OldK s1.heap s2.heap ∧ s2.os = s1.os ∧ AllBare s2.gens) s1 := by
  have isA : ∀ {b : Addr} {u : HO}, H b = some u → b = a := fun {b u} z => own b (by rw [z]; exact fun c => by cases c)
  have untr : ∀ {b : Addr} {o : Obj} {es : Array DictEntry} {ep : Nat}, s1.heap.get? b = some o → o.data = .dict es ep → H b = none := by
    intro b o es ep z dd
    cases hb : H b with
    | none => rfl
    | some u =>
      cases isA hb
      rw [at_a] at z
      cases z
      cases (show Data.seq us.toArray _ = Data.dict es ep from dd)
  have nsT : ∀ {b : Addr} {m : Str → Option Value}, s1.heap.Ns b m → (hidT s1.heap H).Ns b m := by
    intro b m z
    obtain ⟨o, es, ep, z1, z2, z3⟩ := z
    exact ⟨o, es, ep, hidT_get z1 (untr z1 z2), z2, z3⟩
  have kinT : K.In (hidT s1.heap H) := by
    intro b o z
    refine hidT_get (kin b o z) ?_
    cases hb : H b with
    | none => rfl
    | some u =>
      cases isA hb
      rw [outK (by rw [hb]; exact fun c => by cases c)] at z
      cases z
  have md : Mod K mg (hidT s1.heap H) := by
    refine ⟨kinT, nsT g0, ⟨mb, nsT bn, bb⟩, ?_⟩
    obtain ⟨mc, c1, c2⟩ := nl
    exact ⟨mc, nsT c1, c2⟩
  have env : Env0 P w K mg (hidT s1.heap H) callerA [] s1 H := by
    refine ⟨rfl, md, fun b o z => of_hidT z, Nat.le_of_eq (hidT_size _ _), trivial, fun b hb => ?_, hok, .of_eq gz⟩
    cases (show b ∈ ([] : List Addr) from hb)
  have run := (F _ kinT (nsT g0)).go callerA [] s1 H ⟨[.ref a], []⟩ [.ref a] [.ref a] _ _ rm rfl env (bind s1 (.ref a)) (.cons rfl .nil) hsp
  refine codeAny_mono run (fun r s2 z => ?_)
  cases r with
  | error e => exact (noX e s2 z).elim
  | ok fl =>
    cases fl with
    | next => exact z.elim
    | brk => exact z.elim
    | cont => exact z.elim
    | ret u =>
      obtain ⟨v, G, os, bare, un, ok2, rv, q⟩ := z
      cases (show v = .bl true from q)
      cases (show u = Value.bool true from rv)
      refine ⟨rfl, OldK.of_keep (fun b o z => ?_), os, bare⟩
      cases hb : H b with
      | none => exact un.keep b o z hb (fun c => by cases (show b ∈ ([] : List Addr) from c)) (fun c => by cases c)
      | some u =>
        obtain c | ⟨ob, xs, c⟩ := only b
        · rw [hb] at c
          cases c
        · have c2 := un.frzs b ob _ c
          have p1 := (hok b _ c).1
          have p2 := (ok2 b _ c2).1
          rw [z] at p1
          cases p1
          exact p2
theorem lawG (kin : K.In s1.heap) (g0 : s1.heap.Ns mainGlobals mg) (bn : s1.heap.Ns builtinsNs mb) (bb : ∀ y : Str, y ≠ "__name__" → mb y = bootBuiltins y) (nl : s1.heap.NoLimit) (gz : s1.gens = #[])
    (at_a : s1.heap.get? a = some { cls := .type "list", data := .seq us.toArray }) (hints : IntsAre us ns) (hl : ns.length ≤ sizeLine) (rm : Room k callerA)
    (F : ∀ base : Heap, K.In base → base.Ns mainGlobals mg → FnG P w K mg base CX k fa fd [x] sp) (bind : ∀ (s : Shared) (u : Value), BindsTo s fd ⟨[u], []⟩ [(x, u)])
    (hsp : ∀ H : Hp, Only H → SqL K H a (ns.map V.int) → sp [.ref a] H (fun v _ => v = .bl true) fun _ _ _ => False) (noX : ∀ H e s2, CX [] H s1 (fun _ _ _ => False) e s2 → False) :
    codeAny (model P w) callerA (.call (.ref fa) ⟨[.ref a], []⟩) (fun r s2 => r = .ok (.ret (.bool true)) ∧ OldK s1.heap s2.heap ∧ s2.os = s1.os ∧ AllBare s2.gens) s1 := by
  have rel := vals_ints hints
  have lu := hints.length
  cases kl : K.lookup a with
  | some o =>
    have z := kin a o kl
    rw [at_a] at z
    cases z
    have only : Only (fun _ => none) := fun b => Or.inl rfl
    have sq : SqL K (fun _ => none) a (ns.map V.int) := Or.inr ⟨_, us.toArray, _, kl, rfl, rfl, rfl, by rw [List.size_toArray, lu]; exact hl, by simpa using rel⟩
    exact lawG_core kin g0 bn bb nl gz at_a rm F bind (fun _ => none) only (hsp _ only sq) (fun b u c => by cases c) (fun b c => absurd rfl c) (fun c => absurd rfl c) (noX _)
  | none =>
    let T : Hp := fun b => if b = a then some (.frz { cls := .type "list", data := .seq us.toArray } (.lst (ns.map V.int))) else none
    have atT : T a = some (.frz { cls := .type "list", data := .seq us.toArray } (.lst (ns.map V.int))) := if_pos rfl
    have offT : ∀ b, b ≠ a → T b = none := fun b h => if_neg h
    have only : Only T := by
      intro b
      by_cases h : b = a
      · subst h
        exact Or.inr ⟨_, _, atT⟩
      · exact Or.inl (offT b h)
    have sq : SqL K T a (ns.map V.int) := Or.inl (Or.inr ⟨_, atT⟩)
    refine lawG_core kin g0 bn bb nl gz at_a rm F bind T only (hsp _ only sq) (fun b u c => ?_) (fun b c => ?_) (fun _ => kl) (noX _)
    · by_cases h : b = a
      · subst h
        rw [atT] at c
        cases c
        exact ⟨at_a, by rw [List.length_map]; exact hl, us, _, rel, at_a⟩
      · rw [offT b h] at c
        cases c
    · by_cases h : b = a
      · exact h
      · exact absurd (offT b h) c
end
theorem walk_ofG {l : PySem.W.OpenLaw} {n k : Nat} {q : Program} {loose : List Str} {XP : (Str → Option Value) → Heap → Prop} {YP : World → Heap → Prop} {d : DefRec} {K : Params → PySem.W.Frag} {CX : CXT} {sp : PySem.W.Frag → Sp} {x : Str}
    (most : l.most = some n) (small : n ≤ sizeLine) (nodf : d.params.defaults = []) (rm : Room k callerA) (toK : ∀ (w : World) (h : Heap), YP w h → (K w.params).In h)
    (F : ∀ (w : World) (mg : Str → Option Value) (fa : Addr) (h : Heap), (K w.params).In h → h.Ns mainGlobals mg → mg d.name = some (.ref fa) →
      ∃ fd : FuncData, (∀ (s : Shared) (u : Value), BindsTo s fd ⟨[u], []⟩ [(x, u)]) ∧ ∀ base : Heap, (K w.params).In base → base.Ns mainGlobals mg → FnG l.prog w (K w.params) mg base CX k fa fd [x] (sp (K w.params)))
    (hsp : ∀ (K : PySem.W.Frag) (H : Hp) (a : Addr) (ns : List Int), ns.length ≤ n → Only H → SqL K H a (ns.map V.int) → sp K [.ref a] H (fun v _ => v = .bl true) fun _ _ _ => False)
    (noX : ∀ (H : Hp) (s : Shared) (e : Value) (s2 : Shared), CX [] H s (fun _ _ _ => False) e s2 → False) : PySem.W.WalkO q loose XP YP l.row.toRowW d [] (fun f vs => PySem.call f vs) := by
  refine Att.attach_call most nodf ?_
  intro w s0 s1 mg mb fa o pm cd doc a us ns G Y ho hd hcd hmg hobj hi2 hlen gz
  obtain ⟨fd, bind, hF⟩ := F w mg fa _ (toK w _ Y) G.T.g hmg
  exact lawG (toK w _ Y) G.T.g G.T.b G.T.builtins G.T.nolimit gz hobj hi2 (Nat.le_trans hlen small) rm hF bind (fun H h1 h2 => hsp _ H a ns hlen h1 h2) (fun H e s2 => noX H s1 e s2)
end Qj
namespace Qj
open PySem PySem.Spec PyProof.Rows L2
/-! ### own exception classes as the written part has them -/
def veL : List Value := [.type "ValueError", .type "Exception", .type "BaseException", .type "object"]
def lkL : List Value := [.type "LookupError", .type "Exception", .type "BaseException", .type "object"]
/-- the class at C: its name, what is behind it in its mro, its own lookups -/
def ecIn (K : PySem.W.Frag) (C : Addr) (nm : Str) (bm : List Value) (newId : String) : Bool :=
  (match K.lookup C with
    | some ⟨.type "type", _, .cls cd, sl⟩ => (match sl.toList with
      | [_, _, _, _, some (.builtin n), _] => (cd.name == nm && (cd.mro == .ref C :: bm && (n == newId && (cd.hasDict && !cd.hasDel))))
      | _ => false)
    | _ => false) &&
  (PySem.W.findIn K (.ref C) "__setattr__" == some (some (.builtin "object.__setattr__")) &&
  (PySem.W.findIn K (.ref C) "__getattribute__" == some (some (.builtin "BaseException.__getattribute__")) &&
  (PySem.W.findIn K (.ref C) "__getattr__" == some none &&
  (PySem.W.findIn K (.ref C) "__class__" == some (some (.builtin "object.__class__")) &&
  PySem.W.keepIn K (.ref C)))))
structure ExC (K : PySem.W.Frag) (C : Addr) (nm : Str) (bm : List Value) (newId : String) : Prop where
  cls : ∃ q N bs sn sub ab col dd k0 k1 k2 k3 k5, K.lookup C = some (excClassObj nm q C N bs bm true sn sub ab col dd k0 k1 k2 k3 k5 newId)
  sa : PySem.W.findIn K (.ref C) "__setattr__" = some (some (.builtin "object.__setattr__"))
  ga : PySem.W.findIn K (.ref C) "__getattribute__" = some (some (.builtin "BaseException.__getattribute__"))
  gt : PySem.W.findIn K (.ref C) "__getattr__" = some none
  ca : PySem.W.findIn K (.ref C) "__class__" = some (some (.builtin "object.__class__"))
  kp : PySem.W.keepIn K (.ref C) = true
theorem ExC.of {K : PySem.W.Frag} {C : Addr} {nm : Str} {bm : List Value} {newId : String} (h : ecIn K C nm bm newId = true) : ExC K C nm bm newId := by
  unfold ecIn at h
  simp only [Bool.and_eq_true, beq_iff_eq] at h
  obtain ⟨h0, h1, h2, h3, h4, h5⟩ := h
  refine ⟨?_, h1, h2, h3, h4, h5⟩
  split at h0
  · rename_i dd cd sl ho
    split at h0
    · rename_i k0 k1 k2 k3 n k5 hs
      simp only [Bool.and_eq_true, beq_iff_eq, Bool.not_eq_true'] at h0
      obtain ⟨e1, e2, e3, e4, e5⟩ := h0
      obtain ⟨a1, a2, a3, a4, a5, a6, a7, a8, a9, a10, a11⟩ := cd
      dsimp only at e1 e2 e4 e5
      subst e1 e2 e3 e4 e5
      have hsl : sl = #[k0, k1, k2, k3, some (.builtin n), k5] := by
        obtain ⟨l⟩ := sl
        simp only at hs
        rw [hs]
      subst hsl
      exact ⟨_, _, _, _, _, _, _, _, _, _, _, _, _, ho⟩
    · cases h0
  · cases h0
section
variable {K : PySem.W.Frag} {C D : Addr} {nm nm2 : Str} {bm bm2 : List Value} {newId newId2 : String}
theorem ExC.clsIn (T : ExC K C nm bm newId) : ∃ cd, PySem.W.clsIn K C = some cd ∧ cd.name = nm ∧ cd.mro = .ref C :: bm ∧ cd.hasDict = true := by
  obtain ⟨q, N, bs, sn, sub, ab, col, dd, k0, k1, k2, k3, k5, h⟩ := T.cls
  refine ⟨_, by unfold PySem.W.clsIn; rw [h], rfl, rfl, rfl⟩
theorem ExC.mro (T : ExC K C nm bm newId) (b : Value) : PySem.W.mroIn K C b = some ((Value.ref C :: bm).contains b) := by
  obtain ⟨cd, h, _, hm, _⟩ := T.clsIn
  unfold PySem.W.mroIn
  rw [h, Option.bind_some, hm, if_neg (by simp)]
theorem ExC.ty (T : ExC K C nm bm newId) : PySem.W.typeIn K (.ref C) = some (.type "type") := by
  obtain ⟨q, N, bs, sn, sub, ab, col, dd, k0, k1, k2, k3, k5, h⟩ := T.cls
  unfold PySem.W.typeIn
  simp only
  rw [h]
  rfl
theorem ExC.ne (T : ExC K C nm bm newId) (S : ExC K D nm2 bm2 newId2) (h : nm ≠ nm2) : C ≠ D := fun z => by
  subst z
  obtain ⟨cd, h1, e1, _⟩ := T.clsIn
  obtain ⟨cd2, h2, e2, _⟩ := S.clsIn
  rw [h1] at h2
  cases h2
  exact h (e1.symm.trans e2)
/-- isinstance of an instance of C -/
theorem ExC.one (T : ExC K C nm bm newId) (S : ExC K D nm2 bm2 newId2) : PySem.W.kitOne K (.ref C) (.ref D) = some ((Value.ref C :: bm).contains (.ref D)) := by
  unfold PySem.W.kitOne
  by_cases e : (Value.ref C == Value.ref D) = true
  · rw [if_pos e]
    have e2 := beq_iff_eq.mp e
    rw [← e2]
    simp
  · rw [if_neg e]
    obtain ⟨cd, h1, _⟩ := S.clsIn
    unfold PySem.W.kitCls
    simp only
    rw [h1, S.ty]
    rw [if_pos (by simp)]
    exact T.mro _
theorem ExC.oneT (T : ExC K C nm bm newId) {t : String} (h : PySem.W.kitMeta t = true) : PySem.W.kitOne K (.ref C) (.type t) = some ((Value.ref C :: bm).contains (.type t)) := by
  unfold PySem.W.kitOne
  rw [if_neg (by simp)]
  unfold PySem.W.kitCls
  simp only
  rw [if_pos h]
  exact T.mro _
theorem ExC.has (T : ExC K C nm bm newId) (n : String) (h : bm.contains (.type n) = true) : PySem.W.mroIn K C (.type n) = some true := by
  rw [T.mro, List.contains_cons, h, Bool.or_true]
end
/-- the base that the class stands on -/
structure Bas (bm : List Value) (newId : String) : Prop where
  obj : bm.contains (.type "object") = true
  exc : bm.contains (.type "BaseException") = true
  pass : ∀ self : Value, refuseLoop self "__setattr__" bm = pure ()
  fac : ∃ (B initId : String) (bmB : List Value), ExcBaseFacts B newId initId bmB ∧ ∀ Y : String, bm.contains (.type Y) = bmB.contains (.type Y)
theorem bas_ve : Bas veL "ValueError.__new__" := ⟨by decide +kernel, by decide +kernel, fun self => PySem.HandSPX.refsVE_pass self veL (by decide +kernel), _, _, _, PySem.F.excBase_ValueError, fun _ => rfl⟩
theorem bas_own {c : Addr} {bm : List Value} {newId : String} (b : Bas bm newId) : Bas (.ref c :: bm) newId := by
  refine ⟨by rw [List.contains_cons, b.obj, Bool.or_true], by rw [List.contains_cons, b.exc, Bool.or_true], fun self => by rw [refuseLoop_ref]; exact b.pass self, ?_⟩
  obtain ⟨B, i, bmB, F, h⟩ := b.fac
  exact ⟨B, i, bmB, F, fun Y => by rw [List.contains_cons, h Y]; rfl⟩
theorem bas_lk : Bas lkL "LookupError.__new__" := ⟨by decide +kernel, by decide +kernel, fun self => PySem.F.store_LookupError.passes self, _, _, _, PySem.F.excBase_LookupError, fun _ => rfl⟩

/-! ### self.f = v of a new exception -/
section
open Builtin Builtin.ObjectAttr
variable {prog : Program} {w : World} {A : Around} {R : Result → Shared → Prop} {H0 : Heap} {g : Array GenState} {dr : Drawn} {t : Nat} {os : OsState}
theorem e_osa {K : PySem.W.Frag} {f : Str} {tk : Tok} {v : Value} {x C : Addr} {fv : Array Value} {nm : Str} {bm : List Value} {newId : String} (T : ExC K C nm bm newId) (b : Bas bm newId) (X : K.In H0)
    (hx : H0.get? x = some { cls := .ref C, data := .fields fv }) (no : PySem.W.findIn K (.ref C) f = some none)
    (fin : ∀ h2 tk2 dx, (∀ c o, c ≠ x → H0.get? c = some o → h2.get? c = some o) → H0.objs.size ≤ dx → dx ≠ x → h2.get? x = some { cls := .ref C, dict := some dx, data := .fields fv } →
      h2.Ns1 dx (fun y => if y = f then some v else none) → R (.ok (.ret .none)) ⟨h2, g, dr, tk2, os⟩) :
    codeAny (model prog w) A (.call (.builtin "object.__setattr__") ⟨[.ref x, .str f tk, v], []⟩) R ⟨H0, g, dr, t, os⟩ := by
  obtain ⟨cd, hcd, _, hm, hh⟩ := T.clsIn
  have J : PySem.W.InstAt H0 x { cls := .ref C, data := .fields fv } C none := ⟨hx, rfl, rfl, trivial⟩
  have far : H0.objs.size ≠ x := (Nat.ne_of_lt (Heap.lt_size hx)).symm
  have G := F.store_object
  have isO : PySem.W.Looks (model prog w) H0 (isInstance (.ref x) (.type "object")) true :=
    J.type.andThen (PySem.W.looks_mroIn X (T.has "object" b.obj))
  refine codeAny_call_builtin G.slot.plain G.entry
    (@PySem.W.check_slot (model prog w) _ _ ⟨H0, g, dr, t, os⟩ "object.__setattr__" "object" "__setattr__" (.ref x) [.str f tk, v] [] _ G.kind G.split isO (G.args (.ref x) (.str f tk) v) ?_)
  have look1 : PySem.W.Looks (model prog w) H0 (mroOf (.ref C)) cd.mro :=
    (PySem.W.looks_clsIn X hcd).andThen .now
  have look2 : PySem.W.Looks (model prog w) H0 (storeTaker? none) none :=
    .now
  have look3 : PySem.W.Looks (model prog w) H0 (classData C) cd :=
    PySem.W.looks_clsIn X hcd
  have free : refuseLoop (.ref x) "__setattr__" cd.mro = pure () := by
    rw [hm, refuseLoop_ref]; exact b.pass _
  rw [PySem.W.osa_eq, refuse_eq]
  refine wpAny_bind (wpAny_bind (J.type.at
    (wpAny_bind (look1.at ?_))))
  rw [free]
  refine wpAny_pure (wpAny_bind (J.type.at
    (wpAny_bind ((PySem.W.looks_findIn X no).at (wpAny_bind (look2.at ?_))))))
  show wpAny _ _ (storeInOwnDict (.ref x) (.ref C) (.str f tk) f v false) _ _ _
  obtain ⟨c1, c2, c3, c4, c5, c6, c7, c8, c9, c10, c11⟩ := cd
  dsimp only at hh
  subst hh
  unfold storeInOwnDict ownDictForStores
  repeat (first
    | with_reducible refine PySem.HandSPX.store_in_new ?_ ?_
    | with_reducible refine wpAny_loadPart_at hx ?_
    | with_reducible refine look3.at ?_
    | wp_step)
  · exact ⟨_, #[], _,
      (Heap.get?_update_ne _ _ _ _ far).trans (Heap.get?_push_at rfl rfl),
      rfl, fun e he => absurd he (by simp), fun _ => rfl⟩
  · intro h2 tk2 ns sb
    have there : (H0.push { cls := .type "dict", data := .dict #[] }).get? x = some { cls := .ref C, data := .fields fv } :=
      Heap.get?_push_of_some _ hx
    refine fin h2 tk2 H0.objs.size (fun c o hc ho => ?_) (Nat.le_refl _) far ?_ ns
    · refine (sb.2 c (Nat.ne_of_lt (Heap.lt_size ho))).trans ?_
      exact (Heap.get?_update_ne _ _ _ _ hc).trans (Heap.get?_push_of_some _ ho)
    · exact (sb.2 x far.symm).trans (Heap.get?_update_self _ there rfl)
end
section
variable {X : Cx} {pins : List (Addr × Obj)} {σ : L2.St} {H : Hp} {s : Shared} {a C : Addr} {f nm : Str} {y : V} {u : Value} {bm : List Value} {newId : String}
theorem e_store {A : Around} {Q : Unit → Shared → Prop} {E : Value → Shared → Prop} (T : ExC X.K C nm bm newId) (b : Bas bm newId) (I : Inv X pins σ H s) (e : H a = some (exo a C none))
    (no : PySem.W.findIn X.K (.ref C) f = some none) (ry : RelV y u)
    (h : ∀ dx s2, H dx = none → dx ≠ a → Inv X pins σ (upd (upd H dx (exd dx [(f, y)])) a (exo a C (some dx))) s2 → Q () s2) : wpAny (model X.prog X.w) A (setAttr (.ref a) f u) Q E s := by
  obtain ⟨t1, ho⟩ := exo_at I.hok e
  obtain ⟨hp, g, d, t, os⟩ := s
  refine PySem.W.set_plain I.kIn (ox := { cls := .ref C, dict := none, data := .fields #[.ref t1, .none, .none, .none, .bool false, .none] }) (od := none) ⟨ho, rfl, rfl, trivial⟩ T.sa ?_
  refine e_osa T b I.kIn ho no (fun h2 tk2 dx k dn dne hx hn => ?_)
  have nw : H dx = none := I.hok.fresh dn
  have ndx : ∀ {c : Addr} {o : Obj}, hp.get? c = some o → c ≠ dx := fun {c o} q => Nat.ne_of_lt (Nat.lt_of_lt_of_le (Heap.lt_size q) dn)
  have nea : ∀ {c : Addr}, H c = none → c ≠ a := fun {c} n z => by rw [z, e] at n; cases n
  have U : Un X.fs [] H (upd (upd H dx (exd dx [(f, y)])) a (exo a C (some dx))) hp h2 := {
    keep := fun c o q n _ _ => k c o (nea n) q
    slot := fun c o q n _ _ => ⟨o.slots, k c o (nea n) q⟩
    free := fun c o q n _ => by rw [upd_ne (nea n), upd_ne (ndx q)]; exact n
    there := fun c o q _ => by
      by_cases hc : c = a
      · exact ⟨_, by rw [hc]; exact hx⟩
      · exact ⟨o, k c o hc q⟩
    tups := fun c xs q => by rw [upd_ne (at_ne e q exo_tup), upd_ne (ne_of_none q nw)]; exact q
    frzs := fun c o v q => by rw [upd_ne (at_ne e q exo_frz), upd_ne (ne_of_none q nw)]; exact q
    tbls := fun c ps q => ⟨#[], by rw [upd_ne (at_ne e q exo_tbl), upd_ne (ne_of_none q nw), q]; simp⟩ }
  refine h dx _ nw dne (I.un (t' := tk2) U fun c o q => ?_)
  by_cases hc : c = a
  · subst hc
    rw [upd_same] at q
    cases q
    exact exo_ok hx
  · rw [upd_ne hc] at q
    by_cases hd : c = dx
    · subst hd
      rw [upd_same] at q
      cases q
      exact exd_ok hn (relO_put (fs := []) ry fun g => True.intro)
    · rw [upd_ne hd] at q
      refine (I.hok c o q).stay (fun z v hz r => k z v ?_ r) (fun z hz => ?_) fun z xs hz => ?_
      · rcases hz with hz | hz
        · rw [hz]; exact hc
        · exact at_ne e hz exo_own
      · rw [upd_ne (at_ne e hz exo_own), upd_ne (ne_of_none hz nw)]; exact hz
      · rw [upd_ne (at_ne e hz exo_tup), upd_ne (ne_of_none hz nw)]; exact hz
end
/-- a class of errors -/
structure EcK (K : PySem.W.Frag) (C : Addr) : Prop where
  ex : ∃ (nm : Str) (bm : List Value) (newId : String), ExC K C nm bm newId ∧ Bas bm newId
/-- self.f = e within __init__ -/
def tEst (K : PySem.W.Frag) (f : Str) (to te : TE) : TS := fun D σ H => te σ H fun y H1 => to σ H1 fun x H2 => ∃ a C : Addr, x = .ref a ∧ EcK K C ∧ PySem.W.findIn K (.ref C) f = some none ∧
  H2 a = some (exo a C none) ∧ ∀ dx, H2 dx = none → dx ≠ a → D.nx σ (upd (upd H2 dx (exd dx [(f, y)])) a (exo a C (some dx)))
section
variable {X : Cx} {o e : Expr} {es : List Expr} {to te : TE} {ta : TA} {f : Str} {p p2 pos : Pos}
theorem ps_est (ho : PE X o to) (he : PE X e te) (hs : swapsWith e (some (.Attribute o f p2)) pos.line X.env = pure false := by rfl) : PS X (.Assign [.Attribute o f p2] e pos) (tEst X.K f to te) := by
  constructor
  intro pins s σ H D I h
  refine plainObj_wpAny_Assign_Attribute (thn (he.run pins s σ H _ I h) fun v s1 ⟨y, H1, I1, r1, q1⟩ =>
    thn (ho.run pins s1 σ H1 _ I1 q1) fun u s2 ⟨x, H2, I2, r2, a, C, ex, T, hno, ea, q⟩ => ?_) hs
  subst ex
  obtain rfl : u = Value.ref a := r2
  obtain ⟨nm, bm, newId, T1, b⟩ := T.ex
  exact e_store T1 b I2 ea hno r1 fun dx s2 n ne J => ⟨σ, _, J, q dx n ne⟩
/-- C(), C without __init__, as a value -/
theorem pe_mk0 {C : Addr} {bmB : List Value} {B newId initId : String} {x : Str} (F : ExcBaseFacts B newId initId bmB) (q : PySem.W.excIn X.K C bmB newId = true) (gC : X.mg x = some (.ref C))
    (kC : PySem.W.keepIn X.K (.ref C) = true) (hg : Gl X x) (h1 : (x == ("__debug__" : Str)) = false := by decide) :
    PE X (.Call (.Name x p) [] [] pos) (fun σ H Q => ∀ a, H a = none → Q (.ref a) (upd H a (exo a C none))) := by
  refine ⟨fun pins s σ H Q I h => ?_⟩
  refine wpAny_Call_Name_kw (ld_glob I hg gC ?_ h1)
  refine PySem.W.callWith_K0 I.kIn kC ?_
  obtain ⟨bm, N, nm, qn, bs, hdct, sn, sub, ab, col, dd, k0, k1, k2, k3, k5, mN, hC, hN, hni, T⟩ := exc_obj I.kIn q
  show wpAny _ _ (call (.ref C) []) _ _ _
  refine wpAny_call_exc_subT F T hC hN hni (fun h2 a hm => ?_) (Nat.zero_le _)
  have hn : H a = none := I.hok.gone hm.new
  obtain ⟨t, ht, _, _⟩ := hm.there
  exact ⟨.ref a, upd H a (exo a C none), I.laidN hm.keeps hm.new hn (exo_ok ht), rfl, h a hn⟩
/-- C(e, ..), C with its own __init__, as a value -/
def tMkE (C : Addr) (sp : Sp) (ta : TA) : TE := fun σ H Q => ta σ H fun vs H1 => vs.length ≤ 1000 ∧ ∀ a, H1 a = none →
  sp (.ref a :: vs) (upd H1 a (exo a C none)) (fun v H2 => v = .non ∧ Q (.ref a) H2) (fun _ _ _ => False)
theorem pe_mkE {C fI : Addr} {k : Nat} {fd : FuncData} {ps : List Str} {sp : Sp} {x : Str} (T : EcK X.K C) (iC : PySem.W.findIn X.K (.ref C) "__init__" = some (some (.ref fI))) (tI : PySem.W.typeIn X.K (.ref fI) = some (.type "function"))
    (F1 : FnOk X.prog X.w X.K X.mg X.base CX0 k fI fd ps sp) (hr : Room (k + 1) X.A) (hb : Binds X.K fd ps []) (hg : Gl X x) (hm : X.mg x = some (.ref C)) (kC : PySem.W.keepIn X.K (.ref C) = true) (ha : PA X (e :: es) ta)
    (hdb : (x == ("__debug__" : Str)) = false := by decide) (he : starEach (e :: es) X.env = (false, eval e X.env) :: starEach es X.env := by rfl) (hpl : (backTo pos (starEach es X.env)).any (·.1) = false := by rfl) :
    PE X (.Call (.Name x p) (e :: es) [] pos) (tMkE C sp ta) := by
  refine ⟨fun pins s σ H Q I h => ?_⟩
  obtain ⟨nm0, bm, newId, T1, b⟩ := T.ex
  obtain ⟨q0, N, bs, sn, sub, ab, col, dd, k0, k1, k2, k3, k5, hC⟩ := T1.cls
  obtain ⟨B, iB, bmB, F0, has⟩ := b.fac
  refine wpAny_Call_Name_kw (ld_glob I hg hm ?_ hdb)
  refine PySem.W.callWith_K (h₀ := X.base) I.ok.mod.kin kC (thn (ha.run pos pins s σ H _ I h) fun us s1 ⟨vs, H1, I1, r1, hz, q1⟩ => ⟨I1.kIn, ?_⟩) he hpl
  show wpAny _ _ (call (.ref C) us) _ _ _
  obtain ⟨hp, g, dr, tk, os⟩ := s1
  have up : hp.objs.size ≤ hp.objs.size + 1 := Nat.le_succ _
  have hn : H1 (hp.objs.size + 1) = none := I1.hok.fresh up
  have hq := q1 (hp.objs.size + 1) hn
  have old : ∀ c o, hp.get? c = some o → ((hp.push (PySem.W.kdv_tup us)).push (PySem.HandSPX.excO C hp.objs.size)).get? c = some o := fun c o z =>
    Heap.get?_push_of_some _ (Heap.get?_push_of_some _ z)
  have here : ((hp.push (PySem.W.kdv_tup us)).push (PySem.HandSPX.excO C hp.objs.size)).get? (hp.objs.size + 1) = some (PySem.HandSPX.excO C hp.objs.size) := by heap_get
  have I2 : Inv X pins σ (upd H1 (hp.objs.size + 1) (exo (hp.objs.size + 1) C none))
      ⟨(hp.push (PySem.W.kdv_tup us)).push (PySem.HandSPX.excO C hp.objs.size), g, dr, tk, os⟩ :=
    I1.laid (t' := tk) (a := hp.objs.size + 1) (o := exo (hp.objs.size + 1) C none) (h' := (hp.push (PySem.W.kdv_tup us)).push (PySem.HandSPX.excO C hp.objs.size)) old up (exo_ok here)
  have r2 : Vals (V.ref (hp.objs.size + 1) :: vs) (Value.ref (hp.objs.size + 1) :: us) := .cons rfl r1
  have hl : (Value.ref (hp.objs.size + 1) :: us).length = ps.length := by
    have z := r2.length
    have z2 := F1.len _ _ _ _ hq
    omega
  have small : us.length ≤ sizeLine := by
    rw [← Paired.length r1, sizeLine_eq]
    omega
  have bt : BindsTo ⟨(hp.push (PySem.W.kdv_tup us)).push (PySem.HandSPX.excO C hp.objs.size), g, dr, tk, os⟩ fd ⟨Value.ref (hp.objs.size + 1) :: us, []⟩ (ps.zip (Value.ref (hp.objs.size + 1) :: us)) := by
    have z := hb _ (Value.ref (hp.objs.size + 1) :: us) I2.kIn (by rw [List.append_nil]; exact hl)
    rw [List.append_nil] at z
    exact z
  refine wpAny_call (PySem.HandSPX.call_own F0 has (I1.kIn _ _ hC) (PySem.W.looks_findIn I1.kIn iC) (fun self => PySem.W.bind_fn I1.kIn self tI) small
    (codeAny_mono (F1.run _ X.stack _ _ ⟨Value.ref (hp.objs.size + 1) :: us, []⟩ (Value.ref (hp.objs.size + 1) :: us) _ _ (fun _ _ _ => False) (hr.make C us []) (I2.env0.make C us []) bt r2 hq) fun r s2 hq2 => ?_))
  cases r with
  | error er => exact (pass0 pins σ _ _ er s2 I2 hq2)
  | ok fl =>
    cases fl with
    | ret u =>
      obtain ⟨v, H2, J, rv, ev, q2⟩ := I2.after hq2
      subst ev
      exact ⟨rv, .ref _, H2, J, rfl, q2⟩
    | next => exact False.elim hq2
    | brk => exact False.elim hq2
    | cont => exact False.elim hq2
/-- e.f of an exception -/
def tEat (K : PySem.W.Frag) (te : TE) (f : Str) : TE := fun σ H Q => te σ H fun x H1 => ∃ (a C dx : Addr) (fs : List (Str × V)) (v : V), x = .ref a ∧ EcK K C ∧ PySem.W.findIn K (.ref C) f = some none ∧
  H1 a = some (exo a C (some dx)) ∧ H1 dx = some (exd dx fs) ∧ fs.lookup f = some v ∧ Q v H1
theorem pe_eat (he : PE X e te) (hb : attributeBase e f X.env (eval e X.env) = eval e X.env := by rfl) : PE X (.Attribute e f pos) (tEat X.K te f) := by
  refine ⟨fun pins s σ H Q I h => ?_⟩
  refine attr_of hb (thn (he.run pins s σ H _ I h) fun u s1 ⟨x, H1, I1, rx, a, C, dx, fs, v, ex, T, no, ea, ed, l, q⟩ => ?_)
  subst ex
  obtain rfl : u = Value.ref a := rx
  obtain ⟨nm, bm, newId, T1, b⟩ := T.ex
  obtain ⟨t1, ho⟩ := exo_at I1.hok ea
  obtain ⟨mA, hns, rel⟩ := exd_at I1.hok ed
  obtain ⟨u, hu, ru⟩ := RelO.some_of (v := v) (o := mA f) (by rw [← l]; exact rel f)
  obtain ⟨od, hod, hl⟩ := lookIn_ns hns
  obtain ⟨cd, hcd, _, hm, hh⟩ := T1.clsIn
  have hd : PySem.W.hasDictIn X.K C = true := by
    unfold PySem.W.hasDictIn
    rw [hcd]
    exact hh
  refine PySem.HandSPX.exc_get I1.kIn (ox := { cls := .ref C, dict := some dx, data := .fields #[.ref t1, .none, .none, .none, .bool false, .none] }) (od := some od) ⟨ho, rfl, rfl, hod⟩ T1.ga T1.gt (T1.has "BaseException" b.exc)
    (PySem.W.findObj_own hd no rfl (by rw [hl, hu])) (handed_of ru) ?_
  exact ⟨v, H1, I1.tok _, ru, q⟩
/-- isinstance(x, c), x an exception -/
def rIsE (K : PySem.W.Frag) : List V → Hp → VK → Prop := fun xs H Q => ∃ (a C : Addr) (d : Option Addr) (c : V) (u : Value) (b : Bool), xs = [.ref a, c] ∧ ClsV c u ∧ EcK K C ∧ H a = some (exo a C d) ∧ (∀ dx, d = some dx → ∃ fs, H dx = some (exd dx fs)) ∧
  PySem.W.kitOne K (.ref C) u = some b ∧ Q (.bl b) H
theorem cr_isE (hn : PySem.W.specialIn X.K (.builtin "object.__class__") "__get__" = some (some (.builtin "getset_descriptor.__get__"))) (ht : PySem.W.takesIn X.K (.builtin "object.__class__") = some true) : CallR X (.builtin "isinstance") (rIsE X.K) := by
  intro pins s σ H xs us Q I r h
  obtain ⟨a, C, d, c, u, b, rfl, k, T, ea, ed, e, q⟩ := h
  obtain ⟨u1, u2, rfl, r1, r2⟩ := vals2 r
  cases k.eq r2
  cases (show u1 = Value.ref a from r1)
  obtain ⟨nm, bm, newId, T1, bb⟩ := T.ex
  obtain ⟨t1, ho⟩ := exo_at I.hok ea
  obtain ⟨cd, hcd, _, hm, hh⟩ := T1.clsIn
  have J : ∃ od, PySem.W.InstAt s.heap a { cls := .ref C, dict := d, data := .fields #[.ref t1, .none, .none, .none, .bool false, .none] } C od := by
    cases d with
    | none => exact ⟨none, ho, rfl, rfl, trivial⟩
    | some dx =>
      obtain ⟨fs, z⟩ := ed dx rfl
      obtain ⟨mA, hns, rel⟩ := exd_at I.hok z
      obtain ⟨od, hod, hl⟩ := lookIn_ns hns
      exact ⟨some od, ho, rfl, rfl, hod⟩
  obtain ⟨od, J⟩ := J
  exact PySem.W.kia_one (PySem.W.kitx_exc (by rw [hcd]; rfl) T1.ga T1.gt (T1.has "BaseException" bb.exc) T1.ca hn ht (T1.has "object" bb.obj)) I.kIn J e (fun z => nomatch z) fun tk => ⟨.bl b, H, I.tok tk, rfl, q⟩
end
end Qj
namespace Qj
open PySem PySem.Spec PyProof.Rows L2
/-! ### the values that are drawn, and their texts -/
/-- a value of one of the drawn kinds, and what it shows -/
inductive Vd (H : Hp) : V → PyData → Prop where
  | non : Vd H .non .none
  | tru : Vd H (.bl true) (.bool true)
  | int (i : Int) (h : i.natAbs < 2 ^ 30) : Vd H (.int i) (.int i)
  | num (i : Int) (h : i.natAbs < 2 ^ 30) : Vd H (.str (toString i)) (.str (toString i))
  | emp : Vd H (.str "") (.str "")
  | tup {a : Addr} {i j : Int} (hi : i.natAbs < 2 ^ 30) (hj : j.natAbs < 2 ^ 30) (e : H a = some (.tup [.int i, .int j])) : Vd H (.ref a) (.tuple [.int i, .int j])
  | nil {a : Addr} (e : H a = some (.tup [])) : Vd H (.ref a) (.tuple [])
  | lst {a : Addr} {i : Int} (h : i.natAbs < 2 ^ 30) (e : H a = some (.lst [.int i])) : Vd H (.ref a) (.list [.int i])
  | two {a : Addr} {i j : Int} (h : i.natAbs < 2 ^ 30) (hj : j.natAbs < 2 ^ 30) (e : H a = some (.lst [.int i, .int j])) : Vd H (.ref a) (.list [.int i, .int j])
  | dic {a : Addr} {x : Str} {i : Int} (hx : x = "x") (h : i.natAbs < 2 ^ 30) (e : H a = some (.dK [(.inr x, .int i)])) : Vd H (.ref a) (.dict [(.str x, .int i)])
theorem Vd.ex {H H' : Hp} {v : V} {d : PyData} (h : Vd H v d) (x : Evl.Ex H H') : Vd H' v d := by
  cases h with
  | non => exact .non
  | tru => exact .tru
  | int i h => exact .int i h
  | num i h => exact .num i h
  | emp => exact .emp
  | tup hi hj e => exact .tup hi hj (x _ _ e)
  | nil e => exact .nil (x _ _ e)
  | lst h e => exact .lst h (x _ _ e)
  | two h hj e => exact .two h hj (x _ _ e)
  | dic hx h e => exact .dic hx h (x _ _ e)
/-- the text's size is bounded -/
structure Szd (d : PyData) (n m : Nat) : Prop where
  sh : d.showable = true
  lv : d.leavesShort 1001 = true
  wt : d.weight ≤ n
  dp : d.depth ≤ m
theorem szd_okd {d : PyData} {n m : Nat} (h : Okd d n m) : Szd d n m := ⟨h.sh, h.lv, h.wt, h.dp⟩
theorem Szd.mono {d : PyData} {n m n' m' : Nat} (h : Szd d n m) (a : n ≤ n') (b : m ≤ m') : Szd d n' m' := ⟨h.sh, h.lv, Nat.le_trans h.wt a, Nat.le_trans h.dp b⟩
theorem szd_str {x : String} {n : Nat} (h : x.length ≤ n) : Szd (.str x) n 0 := by
  refine ⟨?_, ?_, ?_, ?_⟩
  · simp only [PyData.showable]
  · simp only [PyData.leavesShort, List.all_eq_true, decide_eq_true_eq]
    intro c hc
    rw [Str.ofString_eq_toList] at hc
    simp only [List.mem_map] at hc
    obtain ⟨y, _, rfl⟩ := hc
    have z := y.val.toNat_lt
    have e : y.toNat = y.val.toNat := rfl
    rw [e]
    omega
  · simp only [PyData.weight]
    have z := PySem.ofString_length x
    unfold Str.length at z
    omega
  · simp only [PyData.depth]
    omega
theorem Szd.size {d : PyData} {n m : Nat} (h : Szd d n m) (hn : n ≤ 16000) : d.shown.length ≤ sizeLine := by
  have e := PyData.shown_le 1001 (by decide) d h.lv
  have := h.wt
  rw [sizeLine_eq]
  omega
theorem szd_rep {d : PyData} {n m : Nat} (h : Szd d n m) : ∀ k : Nat, PyData.showableAll (List.replicate k d) = true ∧ PyData.leavesShortAll 1001 (List.replicate k d) = true ∧ PyData.weightAll (List.replicate k d) ≤ k * (n + 1) ∧ PyData.depthAll (List.replicate k d) ≤ m
  | 0 => by
    refine ⟨?_, ?_, ?_, ?_⟩
    · simp only [List.replicate, PyData.showableAll]
    · simp only [List.replicate, PyData.leavesShortAll]
    · simp only [List.replicate, PyData.weightAll]; omega
    · simp only [List.replicate, PyData.depthAll]; omega
  | k + 1 => by
    obtain ⟨a, b, c, e⟩ := szd_rep h k
    refine ⟨?_, ?_, ?_, ?_⟩
    · simp only [List.replicate, PyData.showableAll, h.sh, a, Bool.and_self]
    · simp only [List.replicate, PyData.leavesShortAll, h.lv, b, Bool.and_self]
    · simp only [List.replicate, PyData.weightAll]
      have := h.wt
      rw [Nat.add_mul]
      omega
    · simp only [List.replicate, PyData.depthAll]
      have := h.dp
      omega
theorem szd_lst {d : PyData} {n m : Nat} (h : Szd d n m) (k : Nat) : Szd (.list (List.replicate k d)) (k * (n + 1)) (m + 1) := by
  obtain ⟨a, b, c, e⟩ := szd_rep h k
  refine ⟨?_, ?_, ?_, ?_⟩
  · simp only [PyData.showable, a]
  · simp only [PyData.leavesShort, b]
  · simp only [PyData.weight]; exact c
  · simp only [PyData.depth]; omega
theorem Vd.sz {H : Hp} {v : V} {d : PyData} (h : Vd H v d) : Szd d 100 2 := by
  have i30 : ∀ {i : Int}, i.natAbs < 2 ^ 30 → Okd (.int i) 30 0 := fun h => okd_int h (by decide) (by decide)
  cases h with
  | non => exact (szd_okd okd_non).mono (by decide) (by decide)
  | tru => exact (szd_okd okd_bl).mono (by decide) (by decide)
  | int i h => exact (szd_okd (i30 h)).mono (by decide) (by decide)
  | num i h =>
    refine (szd_str (n := 31) ?_).mono (by decide) (by decide)
    exact int_text_length_le (a := i) (k := 30) (by decide) (PySem.Flt.log2_lt_of (by decide) h)
  | emp => exact (szd_str (x := "") (n := 0) (by decide)).mono (by decide) (by decide)
  | tup hi hj e => exact (szd_okd (okd_tup (oka_cons (i30 hi) (oka_cons (i30 hj) oka_nil)))).mono (by decide) (by decide)
  | nil e => exact (szd_okd (okd_tup oka_nil)).mono (by decide) (by decide)
  | lst h e => exact (szd_okd (okd_lst (oka_cons (i30 h) oka_nil))).mono (by decide) (by decide)
  | two h hj e => exact (szd_okd (okd_lst (oka_cons (i30 h) (oka_cons (i30 hj) oka_nil)))).mono (by decide) (by decide)
  | @dic a x i hx h e =>
    subst hx
    have z := szd_okd (i30 h)
    have y := szd_str (x := "x") (n := 1) (by decide)
    refine ⟨?_, ?_, ?_, ?_⟩
    · simp only [PyData.showable, PyData.showableKv, z.sh, Bool.and_self, Bool.true_and, Bool.and_true]
      have := z.sh
      simp only [PyData.showable] at this
      exact this
    · have a1 := z.lv
      have a2 := y.lv
      simp only [PyData.leavesShort, PyData.leavesShortKv] at a1 a2 ⊢
      rw [a1, a2]
      rfl
    · have a1 := z.wt
      have a2 := y.wt
      simp only [PyData.weight, PyData.weightKv] at a1 a2 ⊢
      omega
    · have a1 := z.dp
      have a2 := y.dp
      simp only [PyData.depth, PyData.depthKv] at a1 a2 ⊢
      omega
section
variable {X : Cx} {pins : List (Addr × Obj)} {σ : L2.St} {H : Hp} {s : Shared}
theorem Vd.reads (I : Inv X pins σ H s) {v : V} {d : PyData} {u : Value} (h : Vd H v d) (r : RelV v u) : ∃ as, Reads s.heap u d as ∧ (d.hasDict = true → sysModules ∉ as) := by
  cases h with
  | non => cases r; exact ⟨_, .none, fun z => by simp only [PyData.hasDict] at z; cases z⟩
  | tru => cases r; exact ⟨_, .bool _, fun z => by simp only [PyData.hasDict] at z; cases z⟩
  | int i h => obtain ⟨t, rfl⟩ := r; exact ⟨_, .int _ _, fun z => by simp only [PyData.hasDict] at z; cases z⟩
  | num i h => obtain ⟨t, rfl⟩ := r; exact ⟨_, .str _ _, fun z => by simp only [PyData.hasDict] at z; cases z⟩
  | emp => obtain ⟨t, rfl⟩ := r; exact ⟨_, .str _ _, fun z => by simp only [PyData.hasDict] at z; cases z⟩
  | tup hi hj e =>
    obtain ⟨as, q⟩ := Dp.reads I _ _ _ (Dp.tup (SqT.of e) (.cons (.int _) (.cons (.int _) .nil))) r
    exact ⟨as, q, fun z => by simp only [PyData.hasDict, PyData.hasDictAll] at z; cases z⟩
  | nil e =>
    obtain ⟨as, q⟩ := Dp.reads I _ _ _ (Dp.tup (SqT.of e) .nil) r
    exact ⟨as, q, fun z => by simp only [PyData.hasDict, PyData.hasDictAll] at z; cases z⟩
  | lst h e =>
    obtain ⟨as, q⟩ := Dp.reads I _ _ _ (Dp.lst (SqL.of e) (.cons (.int _) .nil)) r
    exact ⟨as, q, fun z => by simp only [PyData.hasDict, PyData.hasDictAll] at z; cases z⟩
  | two h hj e =>
    obtain ⟨as, q⟩ := Dp.reads I _ _ _ (Dp.lst (SqL.of e) (.cons (.int _) (.cons (.int _) .nil))) r
    exact ⟨as, q, fun z => by simp only [PyData.hasDict, PyData.hasDictAll] at z; cases z⟩
  | @dic a x i hx h e =>
    obtain rfl : u = Value.ref a := r
    obtain ⟨_, hs, vs, kv, o, es, ep, ho, xd, hd, ks, ps, nd⟩ := dk_of I.hok e
    have na : a ≠ sysModules := fun z => by rw [z] at hs; exact absurd hs (by decide)
    unfold KV at kv
    cases kv with
    | @cons p q _ _ f t =>
      cases t
      obtain ⟨qk, qv⟩ := q
      obtain ⟨f1, f2⟩ := f
      dsimp only at f1 f2
      subst f1
      obtain ⟨t1, rfl⟩ := f2
      cases hes : es.toList with
      | nil => rw [hes] at ps; cases ps
      | cons en r =>
        rw [hes] at ps
        cases ps with
        | cons a1 a2 a3 =>
          cases a3
          refine ⟨_, Reads.dict ho xd.1 hd (kvs := [(.str x, .int i)]) (as := [] ++ []) (bs := [] ++ []) ?_ ?_, fun _ => ?_⟩
          · rw [hes]
            rcases keyIs_shape (show keyIs (.inr x) en.key = true from a1) with ⟨j, t, c, _⟩ | ⟨y, t, c, ek⟩
            · cases c
            · cases c
              refine .cons ?_ .nil
              show Reads s.heap en.key (.str x) []
              rw [ek]
              exact .str _ _
          · rw [hes]
            refine .cons ?_ .nil
            show Reads s.heap en.val (.int i) []
            rw [a2]
            exact .int _ _
          · simp only [List.append_nil, List.mem_singleton]
            exact fun z => na z.symm
theorem reads_rep (I : Inv X pins σ H s) {v : V} {d : PyData} (h : Vd H v d) : ∀ (k : Nat) (us : List Value), Vals (List.replicate k v) us → ∃ as, ReadsAll s.heap us (List.replicate k d) as ∧ (d.hasDict = true → sysModules ∉ as)
  | 0, us, r => by
    cases r
    exact ⟨[], .nil, fun _ z => nomatch z⟩
  | k + 1, us, r => by
    cases r with
    | cons r1 r2 =>
      obtain ⟨as, q1, n1⟩ := h.reads I r1
      obtain ⟨bs, q2, n2⟩ := reads_rep I h k _ r2
      refine ⟨as ++ bs, .cons q1 q2, fun z y => ?_⟩
      rcases List.mem_append.mp y with y | y
      · exact n1 z y
      · exact n2 z y
/-- repr of a drawn value -/
def rRepV (K : PySem.W.Frag) : List V → Hp → VK → Prop := fun xs H Q => ∃ (v : V) (d : PyData), xs = [v] ∧ Vd H v d ∧ Q (.str d.shown) H
theorem cr_repV (K : PySem.W.Frag) (hg : X.A.guards = some []) (hu : X.A.units + 64 < cLine) : CallR X (.builtin "repr") (rRepV K) := by
  intro pins s σ H xs us Q I r h
  obtain ⟨v, d, e, hd, q⟩ := h
  subst e
  obtain ⟨u, hus, ru⟩ := vals1 r
  subst hus
  have sz := hd.sz
  have sl := sz.size (by decide)
  obtain ⟨as, rd, ns⟩ := hd.reads I ru
  have dp := sz.dp
  cases rd with
  | none => exact PySem.P.repr_of_none ⟨.str _, H, I.tok _, ⟨_, rfl⟩, q⟩
  | bool b => exact PySem.P.repr_of_bool ⟨.str _, H, I.tok _, ⟨_, rfl⟩, q⟩
  | int i t =>
    have hs := sz.sh
    simp only [PyData.showable, decide_eq_true_eq] at hs
    exact PySem.P.repr_of_int hs ⟨.str _, H, I.tok _, ⟨_, rfl⟩, q⟩
  | str x t => exact PySem.P.repr_of_str ⟨.str _, H, I.tok _, ⟨_, rfl⟩, q⟩ sl
  | list a b c e => exact repr_of_reads' (.list a b c e) sz.sh ns hg (by omega) (fun _ _ z => z) (fun _ _ _ k => ⟨.str _, H, I.kept k, ⟨_, rfl⟩, q⟩) sl
  | tuple a b c e => exact repr_of_reads' (.tuple a b c e) sz.sh ns hg (by omega) (fun _ _ z => z) (fun _ _ _ k => ⟨.str _, H, I.kept k, ⟨_, rfl⟩, q⟩) sl
  | dict a b c e f => exact repr_of_reads' (.dict a b c e f) sz.sh ns hg (by omega) (fun _ _ z => z) (fun _ _ _ k => ⟨.str _, H, I.kept k, ⟨_, rfl⟩, q⟩) sl
/-- repr of a list of k times one drawn value -/
def rRepL (K : PySem.W.Frag) : List V → Hp → VK → Prop := fun xs H Q => ∃ (l : Addr) (k : Nat) (v : V) (d : PyData), xs = [.ref l] ∧ H l = some (.lst (List.replicate k v)) ∧ sysModules < l ∧ k ≤ 100 ∧ Vd H v d ∧ Q (.str (PyData.list (List.replicate k d)).shown) H
theorem cr_repL (K : PySem.W.Frag) (hg : X.A.guards = some []) (hu : X.A.units + 64 < cLine) : CallR X (.builtin "repr") (rRepL K) := by
  intro pins s σ H xs us Q I r h
  obtain ⟨l, k, v, d, e, hl, hs, hk, hd, q⟩ := h
  subst e
  obtain ⟨u, hus, ru⟩ := vals1 r
  subst hus
  obtain rfl : u = Value.ref l := ru
  have sz := szd_lst hd.sz k
  have sl := sz.size (by omega)
  have dp := sz.dp
  obtain ⟨_, its, n, rv, _, ho⟩ := I.lstM hl
  obtain ⟨as, ra, ns⟩ := reads_rep I hd k its rv
  refine repr_of_reads' (.list ho rfl rfl ra) sz.sh (fun z y => ?_) hg (by omega) (fun _ _ z => z) (fun _ _ _ k => ⟨.str _, H, I.kept k, ⟨_, rfl⟩, q⟩) sl
  rcases List.mem_cons.mp y with y | y
  · exact absurd y (Nat.ne_of_lt hs)
  · refine ns ?_ y
    simp only [PyData.hasDict] at z
    have key : ∀ j : Nat, PyData.hasDictAll (List.replicate j d) = true → d.hasDict = true := by
      intro j
      induction j with
      | zero => intro w; simp only [List.replicate, PyData.hasDictAll] at w; cases w
      | succ j ih =>
        intro w
        simp only [List.replicate, PyData.hasDictAll, Bool.or_eq_true] at w
        rcases w with w | w
        · exact w
        · exact ih w
    exact key k z
/-- lists put together: the new one lies high -/
def rCatH : R2 := fun x y H Q => ∃ (a b : Addr) (xs ys : List V), x = .ref a ∧ y = .ref b ∧ H a = some (.lst xs) ∧ H b = some (.lst ys) ∧ xs.length + ys.length ≤ sizeLine ∧ ∀ p, H p = none → sysModules < p → Q (.ref p) (upd H p (.lst (xs ++ ys)))
theorem op_catH : OpR X (binaryOp .Add) rCatH := by
  intro pins s σ H x y v u Q I rx ry h
  obtain ⟨a, b, xs, ys, rfl, rfl, ha, hb, hz, q⟩ := h
  cases rx
  cases ry
  obtain ⟨_, i1, n1, r1, l1, e1⟩ := I.lstM ha
  obtain ⟨_, i2, n2, r2, l2, e2⟩ := I.lstM hb
  refine PySem.P.add_list e1 e2 ?_ (by rw [List.size_toArray, List.size_toArray]; omega)
  rw [show i1.toArray ++ i2.toArray = (i1 ++ i2).toArray by simp]
  exact ⟨.ref _, _, I.lnew (t' := s.toks) (r1.append r2) (by rw [List.length_append]; omega), rfl, q _ I.fresh I.big⟩
/-- one value, k times: the new list lies high -/
def rRepH : R2 := fun x y H Q => ∃ (l : Addr) (k : Int) (v : V), x = .ref l ∧ y = .int k ∧ H l = some (.lst [v]) ∧ 0 ≤ k ∧ k ≤ 1000 ∧ ∀ p, H p = none → sysModules < p → Q (.ref p) (upd H p (.lst (List.replicate k.toNat v)))
theorem op_repH : OpR X (binaryOp .Mult) rRepH := by
  intro pins s σ H x y v u Q I rx ry h
  obtain ⟨l, k, z0, rfl, rfl, hH, k0, k1, q⟩ := h
  cases rx
  obtain ⟨t, rfl⟩ := ry
  obtain ⟨_, its, n, r, len, e⟩ := I.lstM hH
  have kz : k.toNat ≤ 1000 := by omega
  have one : its.toArray.size * k.toNat ≤ 1000 := by
    rw [List.size_toArray, ← len]
    simp only [List.length_cons, List.length_nil]
    omega
  have fits : ¬ (!Builtin.List.listFitsIndex k) = true := by
    rw [fitsIndex_both (by omega) (by omega)]; exact Bool.false_ne_true
  have short : ¬ its.toArray.size * k.toNat > (2 ^ 63 - 1) / 8 := by
    have c : (1000 : Nat) ≤ (2 ^ 63 - 1) / 8 := by decide
    omega
  have notLong : ¬ Builtin.List.listTooLong (its.toArray.size * k.toNat) = true := by
    rw [notLongL (Nat.le_trans one (by rw [sizeLine_eq]; decide))]; exact Bool.false_ne_true
  have made : List.foldl (fun a b => a ++ b) #[] (List.replicate (if its.toArray.isEmpty = true then 0 else k.toNat) its.toArray) = (List.replicate k.toNat its).flatten.toArray := by
    have z := foldl_rep its k.toNat []
    rw [List.nil_append] at z
    cases its with
    | nil => cases r
    | cons a r2 =>
      rw [if_neg (by simp)]
      exact z
  refine wpAny_binaryOp_repeat_ref (T := "list") (U := "int") (by decide) ⟨_, e, rfl⟩
    (fun s2 => typeIs_int s2 k t) noFill_list_mul F.fills_int_mul
    F.slot_int_rmul repeat_list F.slot_int_index.lookup
    (call_meets F.slot_int_rmul (typeIs_int s k t) F.entry_int_rmul
      (F.args_int_rmul_2 _ _) (int___rmul___int_list k t l its.toArray n)
      ⟨e, rfl, ⟨_, e, rfl⟩, call_meets F.slot_list_mul ⟨_, e, rfl⟩
        F.entry_list_mul (F.args_list_mul_2 _ _)
        (AutoListH.list___mul___list_int_3 l its.toArray n k t fits short notLong) ⟨e, ?_⟩⟩)
  rw [made]
  have rr := r.rep k.toNat
  have fl : (List.replicate k.toNat [z0]).flatten = List.replicate k.toNat z0 := by simp
  rw [fl] at rr
  refine ⟨.ref _, _, I.lnew (t' := s.toks) rr (by rw [List.length_replicate, sizeLine_eq]; omega), rfl, ?_⟩
  exact q _ I.fresh I.big
end
end Qj
namespace K5
open PySem PySem.Spec PyProof.Rows L2 Qj
def topS (i : Nat) : Stmt := PySem.Challenge.pw_offscale_k55_errors_and_limits.main.body.getD i (.Pass ⟨0, 0, 0, 0⟩)
abbrev s__law_deck : Stmt := topS 34
theorem sc__law_deck : FnScope ["_law_script", "_law_great", "_law_small", "_law_cell"] ["_law_script"] (defScope s__law_deck) := ⟨rfl, rfl, rfl, by decide +kernel, rfl, by decide +kernel, by decide +kernel⟩
abbrev s__law_take : Stmt := topS 35
theorem sc__law_take : FnScope ["_law_deck_here", "_law_limit", "_law_digit", "_law_mixed"] ["_law_deck_here", "_law_limit"] (defScope s__law_take) := ⟨rfl, rfl, rfl, by decide +kernel, rfl, by decide +kernel, by decide +kernel⟩
abbrev s__law_value : Stmt := topS 36
theorem sc__law_value : FnScope ["_law_deck_here", "_law_number", "_law_some"] ["_law_deck_here"] (defScope s__law_value) := ⟨rfl, rfl, rfl, by decide +kernel, rfl, by decide +kernel, by decide +kernel⟩
abbrev s__law_fields : Stmt := topS 37
theorem sc__law_fields : FnScope ["_law_one", "_law_other", "_law_found"] ["_law_one", "_law_other"] (defScope s__law_fields) := ⟨rfl, rfl, rfl, by decide +kernel, rfl, by decide +kernel, by decide +kernel⟩
abbrev s__law_kinds : Stmt := topS 38
theorem sc__law_kinds : FnScope ["_law_error", "_law_found"] ["_law_error"] (defScope s__law_kinds) := ⟨rfl, rfl, rfl, by decide +kernel, rfl, by decide +kernel, by decide +kernel⟩
abbrev s__law_families : Stmt := topS 39
theorem sc__law_families : FnScope ["_law_errors", "_law_k", "_law_error", "_law_slid", "_law_told", "_law_j"] ["_law_errors"] (defScope s__law_families) := ⟨rfl, rfl, rfl, by decide +kernel, rfl, by decide +kernel, by decide +kernel⟩
abbrev s_law : Stmt := topS 40
theorem sc_law : FnScope ["_law_script", "_law_deck_here", "_law_one", "_law_other", "_law_kept", "_law_error", "_law_errors", "_law_limits"] ["_law_script"] (defScope s_law) := ⟨rfl, rfl, rfl, by decide +kernel, rfl, by decide +kernel, by decide +kernel⟩
def inS (i : Nat) : Stmt := match topS i with
  | .ClassDef _ _ _ b _ _ _ _ _ _ _ => b.getD 0 (.Pass ⟨0, 0, 0, 0⟩)
  | s => s
abbrev i_BadRule : Stmt := inS 4
theorem sci_BadRule : FnScope ["self", "word"] ["self", "word"] (defScope i_BadRule) := ⟨rfl, rfl, rfl, by decide +kernel, rfl, by decide +kernel, by decide +kernel⟩
abbrev i_NoStretch : Stmt := inS 5
theorem sci_NoStretch : FnScope ["self", "stretch"] ["self", "stretch"] (defScope i_NoStretch) := ⟨rfl, rfl, rfl, by decide +kernel, rfl, by decide +kernel, by decide +kernel⟩
abbrev i_NoMantissa : Stmt := inS 6
theorem sci_NoMantissa : FnScope ["self", "value"] ["self", "value"] (defScope i_NoMantissa) := ⟨rfl, rfl, rfl, by decide +kernel, rfl, by decide +kernel, by decide +kernel⟩
abbrev i_NoPosition : Stmt := inS 7
theorem sci_NoPosition : FnScope ["self", "value"] ["self", "value"] (defScope i_NoPosition) := ⟨rfl, rfl, rfl, by decide +kernel, rfl, by decide +kernel, by decide +kernel⟩
abbrev i_BadWorking : Stmt := inS 8
theorem sci_BadWorking : FnScope ["self", "error"] ["self", "error"] (defScope i_BadWorking) := ⟨rfl, rfl, rfl, by decide +kernel, rfl, by decide +kernel, by decide +kernel⟩
abbrev i_Misfit : Stmt := inS 9
theorem sci_Misfit : FnScope ["self", "number", "word"] ["self", "number", "word"] (defScope i_Misfit) := ⟨rfl, rfl, rfl, by decide +kernel, rfl, by decide +kernel, by decide +kernel⟩
abbrev i_BadText : Stmt := inS 10
theorem sci_BadText : FnScope ["self", "place"] ["self", "place"] (defScope i_BadText) := ⟨rfl, rfl, rfl, by decide +kernel, rfl, by decide +kernel, by decide +kernel⟩
abbrev i_TooMany : Stmt := inS 11
theorem sci_TooMany : FnScope ["self", "limit"] ["self", "limit"] (defScope i_TooMany) := ⟨rfl, rfl, rfl, by decide +kernel, rfl, by decide +kernel, by decide +kernel⟩
abbrev i_BadWish : Stmt := inS 12
theorem sci_BadWish : FnScope ["self", "word"] ["self", "word"] (defScope i_BadWish) := ⟨rfl, rfl, rfl, by decide +kernel, rfl, by decide +kernel, by decide +kernel⟩
abbrev i_BadFeatures : Stmt := inS 13
theorem sci_BadFeatures : FnScope ["self", "index"] ["self", "index"] (defScope i_BadFeatures) := ⟨rfl, rfl, rfl, by decide +kernel, rfl, by decide +kernel, by decide +kernel⟩
abbrev i_Off : Stmt := inS 15
theorem sci_Off : FnScope ["self", "number"] ["self", "number"] (defScope i_Off) := ⟨rfl, rfl, rfl, by decide +kernel, rfl, by decide +kernel, by decide +kernel⟩
abbrev i_BadName : Stmt := inS 16
theorem sci_BadName : FnScope ["self", "name"] ["self", "name"] (defScope i_BadName) := ⟨rfl, rfl, rfl, by decide +kernel, rfl, by decide +kernel, by decide +kernel⟩
abbrev i_Unkept : Stmt := inS 18
theorem sci_Unkept : FnScope ["self", "name"] ["self", "name"] (defScope i_Unkept) := ⟨rfl, rfl, rfl, by decide +kernel, rfl, by decide +kernel, by decide +kernel⟩
abbrev i_Missing : Stmt := inS 22
theorem sci_Missing : FnScope ["self", "name"] ["self", "name"] (defScope i_Missing) := ⟨rfl, rfl, rfl, by decide +kernel, rfl, by decide +kernel, by decide +kernel⟩
abbrev i_NoScale : Stmt := inS 23
theorem sci_NoScale : FnScope ["self", "name"] ["self", "name"] (defScope i_NoScale) := ⟨rfl, rfl, rfl, by decide +kernel, rfl, by decide +kernel, by decide +kernel⟩
abbrev i_NoWorking : Stmt := inS 24
theorem sci_NoWorking : FnScope ["self", "name"] ["self", "name"] (defScope i_NoWorking) := ⟨rfl, rfl, rfl, by decide +kernel, rfl, by decide +kernel, by decide +kernel⟩
structure Cl (K : PySem.W.Frag) (mg : Str → Option Value) (x : Str) (bm : List Value) (newId : String) where
  C : Addr
  g : mg x = some (.ref C)
  e : ExC K C x bm newId
structure Ini (K : PySem.W.Frag) (C : Addr) (qual : Str) (st : Stmt) (ps : List Str) where
  f : Addr
  fd : FuncData
  F : Fun K "__init__" qual st f fd
  b : Binds K fd ps []
  i : PySem.W.findIn K (.ref C) "__init__" = some (some (.ref f))
  t : PySem.W.typeIn K (.ref f) = some (.type "function")
/-- what the top has written -/
structure Txt (K : PySem.W.Frag) (mg : Str → Option Value) where
  _law_deck : Def K mg "_law_deck" s__law_deck ["_law_script"]
  _law_take : Def K mg "_law_take" s__law_take ["_law_deck_here", "_law_limit"]
  _law_value : Def K mg "_law_value" s__law_value ["_law_deck_here"]
  _law_fields : Def K mg "_law_fields" s__law_fields ["_law_one", "_law_other"]
  _law_kinds : Def K mg "_law_kinds" s__law_kinds ["_law_error"]
  _law_families : Def K mg "_law_families" s__law_families ["_law_errors"]
  law : Def K mg "law" s_law ["_law_script"]
  m_LookupError : mg "LookupError" = none
  m_ValueError : mg "ValueError" = none
  m_abs : mg "abs" = none
  m_int : mg "int" = none
  m_isinstance : mg "isinstance" = none
  m_len : mg "len" = none
  m_list : mg "list" = none
  m_range : mg "range" = none
  m_repr : mg "repr" = none
  m_str : mg "str" = none
  SlideError : Cl K mg "SlideError" veL "ValueError.__new__"
  x_SlideError : PySem.W.excIn K SlideError.C [.type "ValueError", .type "Exception", .type "BaseException", .type "object"] "ValueError.__new__" = true
  NoFraction : Cl K mg "NoFraction" (.ref SlideError.C :: veL) "ValueError.__new__"
  x_NoFraction : PySem.W.excIn K NoFraction.C [.type "ValueError", .type "Exception", .type "BaseException", .type "object"] "ValueError.__new__" = true
  BadForm : Cl K mg "BadForm" (.ref SlideError.C :: veL) "ValueError.__new__"
  x_BadForm : PySem.W.excIn K BadForm.C [.type "ValueError", .type "Exception", .type "BaseException", .type "object"] "ValueError.__new__" = true
  BadRule : Cl K mg "BadRule" (.ref SlideError.C :: veL) "ValueError.__new__"
  i_BadRule : Ini K BadRule.C "BadRule.__init__" i_BadRule ["self", "word"]
  n_BadRule_word : PySem.W.findIn K (.ref BadRule.C) "word" = some none
  NoStretch : Cl K mg "NoStretch" (.ref SlideError.C :: veL) "ValueError.__new__"
  i_NoStretch : Ini K NoStretch.C "NoStretch.__init__" i_NoStretch ["self", "stretch"]
  n_NoStretch_stretch : PySem.W.findIn K (.ref NoStretch.C) "stretch" = some none
  NoMantissa : Cl K mg "NoMantissa" (.ref SlideError.C :: veL) "ValueError.__new__"
  i_NoMantissa : Ini K NoMantissa.C "NoMantissa.__init__" i_NoMantissa ["self", "value"]
  n_NoMantissa_value : PySem.W.findIn K (.ref NoMantissa.C) "value" = some none
  NoPosition : Cl K mg "NoPosition" (.ref SlideError.C :: veL) "ValueError.__new__"
  i_NoPosition : Ini K NoPosition.C "NoPosition.__init__" i_NoPosition ["self", "value"]
  n_NoPosition_value : PySem.W.findIn K (.ref NoPosition.C) "value" = some none
  BadWorking : Cl K mg "BadWorking" (.ref SlideError.C :: veL) "ValueError.__new__"
  i_BadWorking : Ini K BadWorking.C "BadWorking.__init__" i_BadWorking ["self", "error"]
  n_BadWorking_error : PySem.W.findIn K (.ref BadWorking.C) "error" = some none
  Misfit : Cl K mg "Misfit" (.ref SlideError.C :: veL) "ValueError.__new__"
  i_Misfit : Ini K Misfit.C "Misfit.__init__" i_Misfit ["self", "number", "word"]
  n_Misfit_number : PySem.W.findIn K (.ref Misfit.C) "number" = some none
  n_Misfit_word : PySem.W.findIn K (.ref Misfit.C) "word" = some none
  BadText : Cl K mg "BadText" (.ref SlideError.C :: veL) "ValueError.__new__"
  i_BadText : Ini K BadText.C "BadText.__init__" i_BadText ["self", "place"]
  n_BadText_place : PySem.W.findIn K (.ref BadText.C) "place" = some none
  TooMany : Cl K mg "TooMany" (.ref SlideError.C :: veL) "ValueError.__new__"
  i_TooMany : Ini K TooMany.C "TooMany.__init__" i_TooMany ["self", "limit"]
  n_TooMany_limit : PySem.W.findIn K (.ref TooMany.C) "limit" = some none
  BadWish : Cl K mg "BadWish" (.ref SlideError.C :: veL) "ValueError.__new__"
  i_BadWish : Ini K BadWish.C "BadWish.__init__" i_BadWish ["self", "word"]
  n_BadWish_word : PySem.W.findIn K (.ref BadWish.C) "word" = some none
  BadFeatures : Cl K mg "BadFeatures" (.ref SlideError.C :: veL) "ValueError.__new__"
  i_BadFeatures : Ini K BadFeatures.C "BadFeatures.__init__" i_BadFeatures ["self", "index"]
  n_BadFeatures_index : PySem.W.findIn K (.ref BadFeatures.C) "index" = some none
  BadBook : Cl K mg "BadBook" (.ref SlideError.C :: veL) "ValueError.__new__"
  x_BadBook : PySem.W.excIn K BadBook.C [.type "ValueError", .type "Exception", .type "BaseException", .type "object"] "ValueError.__new__" = true
  Off : Cl K mg "Off" (.ref SlideError.C :: veL) "ValueError.__new__"
  i_Off : Ini K Off.C "Off.__init__" i_Off ["self", "number"]
  n_Off_number : PySem.W.findIn K (.ref Off.C) "number" = some none
  BadName : Cl K mg "BadName" (.ref SlideError.C :: veL) "ValueError.__new__"
  i_BadName : Ini K BadName.C "BadName.__init__" i_BadName ["self", "name"]
  n_BadName_name : PySem.W.findIn K (.ref BadName.C) "name" = some none
  NotRule : Cl K mg "NotRule" (.ref SlideError.C :: veL) "ValueError.__new__"
  x_NotRule : PySem.W.excIn K NotRule.C [.type "ValueError", .type "Exception", .type "BaseException", .type "object"] "ValueError.__new__" = true
  Unkept : Cl K mg "Unkept" (.ref SlideError.C :: veL) "ValueError.__new__"
  i_Unkept : Ini K Unkept.C "Unkept.__init__" i_Unkept ["self", "name"]
  n_Unkept_name : PySem.W.findIn K (.ref Unkept.C) "name" = some none
  Full : Cl K mg "Full" (.ref SlideError.C :: veL) "ValueError.__new__"
  x_Full : PySem.W.excIn K Full.C [.type "ValueError", .type "Exception", .type "BaseException", .type "object"] "ValueError.__new__" = true
  Busy : Cl K mg "Busy" (.ref SlideError.C :: veL) "ValueError.__new__"
  x_Busy : PySem.W.excIn K Busy.C [.type "ValueError", .type "Exception", .type "BaseException", .type "object"] "ValueError.__new__" = true
  NothingToUndo : Cl K mg "NothingToUndo" (.ref SlideError.C :: veL) "ValueError.__new__"
  x_NothingToUndo : PySem.W.excIn K NothingToUndo.C [.type "ValueError", .type "Exception", .type "BaseException", .type "object"] "ValueError.__new__" = true
  Missing : Cl K mg "Missing" lkL "LookupError.__new__"
  i_Missing : Ini K Missing.C "Missing.__init__" i_Missing ["self", "name"]
  n_Missing_name : PySem.W.findIn K (.ref Missing.C) "name" = some none
  NoScale : Cl K mg "NoScale" lkL "LookupError.__new__"
  i_NoScale : Ini K NoScale.C "NoScale.__init__" i_NoScale ["self", "name"]
  n_NoScale_name : PySem.W.findIn K (.ref NoScale.C) "name" = some none
  NoWorking : Cl K mg "NoWorking" lkL "LookupError.__new__"
  i_NoWorking : Ini K NoWorking.C "NoWorking.__init__" i_NoWorking ["self", "name"]
  n_NoWorking_name : PySem.W.findIn K (.ref NoWorking.C) "name" = some none
  t_MAX_TURNS : Tok
  c_MAX_TURNS : mg "MAX_TURNS" = some (.int 3 t_MAX_TURNS)
  t_MAX_SCALES : Tok
  c_MAX_SCALES : mg "MAX_SCALES" = some (.int 6 t_MAX_SCALES)
  t_MAX_STEPS : Tok
  c_MAX_STEPS : mg "MAX_STEPS" = some (.int 10 t_MAX_STEPS)
  t_MAX_DEPTH : Tok
  c_MAX_DEPTH : mg "MAX_DEPTH" = some (.int 2 t_MAX_DEPTH)
  t_MAX_OPERANDS : Tok
  c_MAX_OPERANDS : mg "MAX_OPERANDS" = some (.int 3 t_MAX_OPERANDS)
  t_MAX_FACTOR : Tok
  c_MAX_FACTOR : mg "MAX_FACTOR" = some (.int 3 t_MAX_FACTOR)
  t_MAX_FEATURES : Tok
  c_MAX_FEATURES : mg "MAX_FEATURES" = some (.int 6 t_MAX_FEATURES)
  t_MAX_DEEDS : Tok
  c_MAX_DEEDS : mg "MAX_DEEDS" = some (.int 30 t_MAX_DEEDS)
  oc1 : PySem.W.specialIn K (.builtin "object.__class__") "__get__" = some (some (.builtin "getset_descriptor.__get__"))
  oc2 : PySem.W.takesIn K (.builtin "object.__class__") = some true
section
variable {K : PySem.W.Frag} {mg : Str → Option Value}
/-- the classes by number -/
def Txt.C (T : Txt K mg) : Nat → Addr
  | 0 => T.NoFraction.C
  | 1 => T.BadForm.C
  | 2 => T.BadRule.C
  | 3 => T.NoStretch.C
  | 4 => T.NoMantissa.C
  | 5 => T.NoPosition.C
  | 6 => T.BadWorking.C
  | 7 => T.Misfit.C
  | 8 => T.BadText.C
  | 9 => T.TooMany.C
  | 10 => T.BadWish.C
  | 11 => T.BadFeatures.C
  | 12 => T.BadBook.C
  | 13 => T.Off.C
  | 14 => T.BadName.C
  | 15 => T.NotRule.C
  | 16 => T.Unkept.C
  | 17 => T.Full.C
  | 18 => T.Busy.C
  | 19 => T.NothingToUndo.C
  | 20 => T.Missing.C
  | 21 => T.NoScale.C
  | 22 => T.NoWorking.C
  | _ => T.SlideError.C
def nms : List Str := ["NoFraction", "BadForm", "BadRule", "NoStretch", "NoMantissa", "NoPosition", "BadWorking", "Misfit", "BadText", "TooMany", "BadWish", "BadFeatures", "BadBook", "Off", "BadName", "NotRule", "Unkept", "Full", "Busy", "NothingToUndo", "Missing", "NoScale", "NoWorking", "SlideError"]
theorem nms_nd : nms.Nodup := by decide +kernel
def Txt.bm (T : Txt K mg) (i : Nat) : List Value := if i < 20 then .ref T.SlideError.C :: veL else if i < 23 then lkL else veL
def nid (i : Nat) : String := if i < 20 then "ValueError.__new__" else if i < 23 then "LookupError.__new__" else "ValueError.__new__"
theorem Txt.ex (T : Txt K mg) : ∀ i, i < 24 → ∃ nm, nms[i]? = some nm ∧ ExC K (T.C i) nm (T.bm i) (nid i)
  | 0, _ => ⟨_, rfl, T.NoFraction.e⟩
  | 1, _ => ⟨_, rfl, T.BadForm.e⟩
  | 2, _ => ⟨_, rfl, T.BadRule.e⟩
  | 3, _ => ⟨_, rfl, T.NoStretch.e⟩
  | 4, _ => ⟨_, rfl, T.NoMantissa.e⟩
  | 5, _ => ⟨_, rfl, T.NoPosition.e⟩
  | 6, _ => ⟨_, rfl, T.BadWorking.e⟩
  | 7, _ => ⟨_, rfl, T.Misfit.e⟩
  | 8, _ => ⟨_, rfl, T.BadText.e⟩
  | 9, _ => ⟨_, rfl, T.TooMany.e⟩
  | 10, _ => ⟨_, rfl, T.BadWish.e⟩
  | 11, _ => ⟨_, rfl, T.BadFeatures.e⟩
  | 12, _ => ⟨_, rfl, T.BadBook.e⟩
  | 13, _ => ⟨_, rfl, T.Off.e⟩
  | 14, _ => ⟨_, rfl, T.BadName.e⟩
  | 15, _ => ⟨_, rfl, T.NotRule.e⟩
  | 16, _ => ⟨_, rfl, T.Unkept.e⟩
  | 17, _ => ⟨_, rfl, T.Full.e⟩
  | 18, _ => ⟨_, rfl, T.Busy.e⟩
  | 19, _ => ⟨_, rfl, T.NothingToUndo.e⟩
  | 20, _ => ⟨_, rfl, T.Missing.e⟩
  | 21, _ => ⟨_, rfl, T.NoScale.e⟩
  | 22, _ => ⟨_, rfl, T.NoWorking.e⟩
  | 23, _ => ⟨_, rfl, T.SlideError.e⟩
  | n + 24, h => absurd h (by omega)
theorem Txt.bas (T : Txt K mg) (i : Nat) : Bas (T.bm i) (nid i) := by
  unfold Txt.bm nid
  by_cases h : i < 20
  · rw [if_pos h, if_pos h]
    exact bas_own bas_ve
  · rw [if_neg h, if_neg h]
    by_cases h2 : i < 23
    · rw [if_pos h2, if_pos h2]
      exact bas_lk
    · rw [if_neg h2, if_neg h2]
      exact bas_ve
theorem Txt.ek (T : Txt K mg) {i : Nat} (h : i < 24) : EcK K (T.C i) := by
  obtain ⟨nm, _, e⟩ := T.ex i h
  exact ⟨nm, _, _, e, T.bas i⟩
theorem Txt.inj (T : Txt K mg) {i j : Nat} (hi : i < 24) (hj : j < 24) (h : T.C i = T.C j) : i = j := by
  obtain ⟨n1, e1, x1⟩ := T.ex i hi
  obtain ⟨n2, e2, x2⟩ := T.ex j hj
  by_cases e : n1 = n2
  · subst e
    exact nodup_ix nms_nd e1 e2
  · exact absurd h (x1.ne x2 e)
/-- whether an error of class i is of kind j -/
def kb (i j : Nat) : Bool := decide (i = j) || (decide (j = 23) && decide (i < 20))
theorem Txt.kit (T : Txt K mg) {i j : Nat} (hi : i < 24) (hj : j < 24) : PySem.W.kitOne K (.ref (T.C i)) (.ref (T.C j)) = some (kb i j) := by
  obtain ⟨n1, e1, x1⟩ := T.ex i hi
  obtain ⟨n2, e2, x2⟩ := T.ex j hj
  rw [x1.one x2]
  refine congrArg some ?_
  have ve : ∀ c : Addr, veL.contains (.ref c) = false := fun c => by rfl
  have lk : ∀ c : Addr, lkL.contains (.ref c) = false := fun c => by rfl
  have same : (Value.ref (T.C j) == Value.ref (T.C i)) = decide (i = j) := by
    by_cases e : i = j
    · subst e
      simp
    · have ne : T.C j ≠ T.C i := fun z => e (T.inj hi hj z.symm)
      have z : decide (i = j) = false := decide_eq_false e
      rw [z]
      exact beq_eq_false_iff_ne.mpr (fun y => ne (Value.ref.inj y))
  unfold kb
  rw [List.contains_cons, same]
  congr 1
  unfold Txt.bm
  by_cases h : i < 20
  · rw [if_pos h, List.contains_cons, ve, Bool.or_false, decide_eq_true h, Bool.and_true]
    show (Value.ref (T.C j) == Value.ref (T.C 23)) = _
    by_cases e : j = 23
    · subst e
      simp
    · rw [decide_eq_false e]
      exact beq_eq_false_iff_ne.mpr (fun y => e (T.inj hj (by decide) (Value.ref.inj y)))
  · rw [if_neg h, decide_eq_false h, Bool.and_false]
    by_cases h2 : i < 23
    · rw [if_pos h2, lk]
    · rw [if_neg h2, ve]
theorem Txt.kitV (T : Txt K mg) {i : Nat} (hi : i < 24) : PySem.W.kitOne K (.ref (T.C i)) (.type "ValueError") = some (decide (i < 20) || decide (i = 23)) := by
  obtain ⟨n1, e1, x1⟩ := T.ex i hi
  rw [x1.oneT (by decide +kernel)]
  refine congrArg some ?_
  rw [List.contains_cons, show (Value.type "ValueError" == Value.ref (T.C i)) = false by simp, Bool.false_or]
  unfold Txt.bm
  by_cases h : i < 20
  · rw [if_pos h, decide_eq_true h]
    rw [List.contains_cons, show (Value.type "ValueError" == Value.ref T.SlideError.C) = false by simp]
    rfl
  · rw [if_neg h, decide_eq_false h]
    by_cases h2 : i < 23
    · rw [if_pos h2, decide_eq_false (by omega)]
      decide +kernel
    · rw [if_neg h2, decide_eq_true (by omega)]
      decide +kernel
theorem Txt.kitL (T : Txt K mg) {i : Nat} (hi : i < 24) : PySem.W.kitOne K (.ref (T.C i)) (.type "LookupError") = some (!decide (i < 20) && !decide (i = 23)) := by
  obtain ⟨n1, e1, x1⟩ := T.ex i hi
  rw [x1.oneT (by decide +kernel)]
  refine congrArg some ?_
  rw [List.contains_cons, show (Value.type "LookupError" == Value.ref (T.C i)) = false by simp, Bool.false_or]
  unfold Txt.bm
  by_cases h : i < 20
  · rw [if_pos h, decide_eq_true h]
    rw [List.contains_cons, show (Value.type "LookupError" == Value.ref T.SlideError.C) = false by simp]
    rfl
  · rw [if_neg h, decide_eq_false h]
    by_cases h2 : i < 23
    · rw [if_pos h2, decide_eq_false (by omega)]
      decide +kernel
    · rw [if_neg h2, decide_eq_true (by omega)]
      decide +kernel
end
end K5
namespace K5
open PySem PySem.Spec PyProof.Rows L2 Qj
local macro_rules | `(tactic| walk_at "go") => `(tactic| repeat (first
  | (refine ⟨_, rfl, ?_⟩)
  | (refine ⟨_, _, rfl, rfl, ?_⟩)
  | (refine ⟨_, _, rfl, ?_⟩)
  | (refine ⟨_, _, _, _, rfl, rfl, SqL.of (by assumption), rfl, ?_⟩)
  | (refine ⟨_, _, _, _, rfl, rfl, SqL.of upd_same, rfl, ?_⟩)
  | (refine ⟨_, _, _, _, rfl, rfl, SqT.of (by assumption), rfl, ?_⟩)
  | (refine ⟨_, _, _, _, rfl, rfl, SqT.of upd_same, rfl, ?_⟩)
  | (refine ⟨_, _, _, _, rfl, rfl, (by assumption), rfl, ?_⟩)
  | (refine ⟨_, _, _, _, rfl, rfl, upd_same, rfl, ?_⟩)
  | (refine ⟨_, _, rfl, Or.inl (by assumption), ?_⟩)
  | (refine ⟨_, _, rfl, Or.inr (SqT.of (by assumption)), ?_⟩)
  | (refine ⟨_, _, rfl, Or.inr (SqT.of upd_same), ?_⟩)
  | (refine ⟨_, _, rfl, Or.inl (SqL.of (by assumption)), ?_⟩)
  | (refine ⟨_, _, rfl, SqT.of (by assumption), rfl, ?_⟩)
  | (refine ⟨_, _, rfl, Kn.int _, ?_⟩)
  | (refine ⟨_, _, rfl, (by assumption : Kn _ _ _), ?_⟩)
  | (refine iteNS rfl ?_)
  | (refine iteF ?_)
  | (refine iteT ?_)
  | (refine Or.inl ⟨_, rfl, ?_⟩)
  | (refine Or.inr ⟨_, rfl, ?_⟩)
  | (refine And.intro sz4 ?_)
  | (refine And.intro (by first | exact rfl | assumption | decide | (show (0 : Int) < _; decide) | exact wide_div (b := 63) (by assumption) (by omega) (by decide) (by decide) | exact wide_div (b := 63) (by decide) (by decide) (by decide) (by decide) | exact Or.inl ⟨by decide, by decide⟩ | exact Or.inr ⟨by decide, by decide⟩ | exact ⟨by decide, by decide, by decide⟩ | exact Or.inl ⟨by omega, by omega⟩ | exact Or.inr ⟨by omega, by omega⟩) ?_)))


section
variable {P : Program} {w : World} {K : PySem.W.Frag} {mg : Str → Option Value} {base : Heap}
theorem ok__law_take (T : Txt K mg) : FnOk P w K mg base CX0 1 T._law_take.f T._law_take.fd ["_law_deck_here", "_law_limit"] spTake := by
  refine T._law_take.F.ok sc__law_take (fun vs H Q E h => ?_) (fun cdv A outer s H vs Q E hr h => ?_)
  · obtain ⟨D, lim, rfl, _⟩ := h
    rfl
  obtain ⟨D, lim, rfl, ⟨g, m, c, hD, hm1, hm2⟩, hl, hl2, q⟩ := h
  have nd := sc__law_take.nd
  refine ⟨_, (pss_cons (ps_if (pt_cmpR op_gt (pe_ix ix_list (pv 0) pe_int (fun _ _ => rfl)) pe_int (nomark _))
        (pss_cons (ps_set (i := 2) nd rfl (.inl rfl) (pe_op op_mod (pe_callTy call_int1 (by rfl) T.m_int boot_int (pa_cons (pe_ix ix_list (pv 0) pe_int (fun _ _ => rfl)) pa_nil)) (pv 1)))
        (pss_cons (ps_asg (pe_op op_fdivW (pe_ix ix_list (pv 0) pe_int (fun _ _ => rfl)) (pv 1)) (pg_sub (pv 0) pe_int set_list))
        (pss_one (ps_ret (pv 2)))))
        pss_nil)
      (pss_cons (ps_asg (pe_op op_add (pe_ix ix_list (pv 0) pe_int (fun _ _ => rfl)) pe_int) (pg_sub (pv 0) pe_int set_list))
      (pss_cons (ps_set (i := 3) nd rfl (.inl rfl) (pe_op op_add (pe_op op_mul (pe_ix ix_list (pv 0) pe_int (fun _ _ => rfl)) pe_int) (pe_op op_mul pe_int (pe_ix ix_list (pv 0) pe_int (fun _ _ => rfl)))))
      (pss_cons (ps_asg (pe_op op_mod (pe_callTy call_int1 (by rfl) T.m_int boot_int (pa_cons (pv 3) pa_nil)) pe_int) (pg_sub (pv 0) pe_int set_list))
      (pss_one (ps_ret (pe_op op_mod (pe_op op_fdivW (pe_op op_mod (pe_callTy call_int1 (by rfl) T.m_int boot_int (pa_cons (pe_op op_mul (pe_ix ix_list (pv 0) pe_int (fun _ _ => rfl)) (pe_ix ix_list (pv 0) pe_int (fun _ _ => rfl))) pa_nil)) pe_int) pe_int) (pv 1)))))))), ?_⟩
  walk_at "go"
  refine ite2 (fun hg => ?_) (fun hg => ?_)
  · walk_at "go"
    exact q _ _ (Int.emod_nonneg _ (by omega)) (Int.emod_lt_of_pos _ hl) Bu.upd ⟨_, _, _, upd_same, hm1, hm2⟩
  · walk_at "go"
    have b0 := Int.emod_nonneg (m * 2862933555777941757 + 3037000493 * (c + 1)) (b := 2305843009213693951) (by decide)
    have b1 := Int.emod_lt_of_pos (m * 2862933555777941757 + 3037000493 * (c + 1)) (b := 2305843009213693951) (by decide)
    exact q _ _ (Int.emod_nonneg _ (by omega)) (Int.emod_lt_of_pos _ hl) (Bu.upd.trans Bu.upd) ⟨_, _, _, upd_same, by omega, by omega⟩
theorem ok__law_deck (T : Txt K mg) : FnOk P w K mg base CX0 1 T._law_deck.f T._law_deck.fd ["_law_script"] (spDeck K) := by
  refine T._law_deck.F.ok sc__law_deck (fun vs H Q E h => ?_) (fun cdv A outer s H vs Q E hr h => ?_)
  · obtain ⟨a, ns, rfl, _⟩ := h
    rfl
  obtain ⟨a, ns, rfl, hS, hlen, q⟩ := h
  have nd := sc__law_deck.nd
  refine ⟨_, (pss_cons (ps_par (i := 1) (j := 2) rfl nd rfl rfl (by decide) rfl rfl (pa_cons pe_int (pa_cons (pe_op op_add pe_int (pe_op op_mul pe_int (pe_callB call_len_seq (by rfl) T.m_len (by decide +kernel) (pa_cons (pv 0) pa_nil)))) pa_nil)) (by rfl))
      (pss_cons (ps_for PassesOwn.never rfl (pi_list (pe_slice sl_list (pv 0) po_none (po_some pe_int))) (pg_name (i := 3) nd rfl (.inl rfl))
        (pss_one (ps_if (pt_cmpR op_ge (pv 3) (pe_op op_pow pe_int pe_int) (nomark _))
          (pss_one (ps_set (i := 1) nd rfl (.inl rfl) (pe_op op_sub (pe_op op_add (pe_op op_mul (pv 1) pe_int) (pv 3)) (pe_op op_pow pe_int pe_int))))
          (pss_cons (ps_set (i := 2) nd rfl (.inl rfl) (pe_op op_add (pe_op op_mul (pv 2) pe_int) (pe_op op_mul pe_int (pe_callB call_abs (by rfl) T.m_abs (by decide +kernel) (pa_cons (pv 3) pa_nil)))))
          (pss_one (ps_set (i := 2) nd rfl (.inl rfl) (pe_op op_mod (pe_callTy call_int1 (by rfl) T.m_int boot_int (pa_cons (pe_op op_add (pv 2) (pe_callTy call_int1 (by rfl) T.m_int boot_int (pa_cons (pe_cmpR op_lt (pv 3) pe_int (nomark _)) pa_nil))) pa_nil)) pe_int)))))))
      (pss_one (ps_ret (pe_lst (pa_cons (pv 1) (pa_cons (pv 2) (pa_cons pe_int pa_nil)))))))), ?_⟩
  walk_at "go"
  refine ⟨a, _, rfl, hS, fun c nc => ?_⟩
  refine ⟨c, rfl, ⟨_, SqL.of upd_same⟩, for_list (xs := cutV (ns.map V.int) none (some 63)) (fun i σ H3 => ∃ (g m : Int) (y : Option V), σ = [some (.ref a), some (.int g), some (.int m), y] ∧ -(2 ^ 62) < m ∧ m < 2 ^ 62 ∧ H3 = upd H c (.lst (cutV (ns.map V.int) none (some 63)))) ?_ ?_ ?_ ?_⟩
  · refine ⟨_, _, _, rfl, ?_, ?_, rfl⟩
    · rw [List.length_map]; omega
    · rw [List.length_map]; omega
  · rintro i σ H3 hi ⟨g, m, y, rfl, _, _, rfl⟩
    exact SqL.of upd_same
  · rintro i x σ H3 hx ⟨g, m, y, rfl, h1, h2, rfl⟩
    obtain ⟨n, rfl⟩ := cut_int hx
    walk_at "go"
    refine ite2 (fun hg => ?_) (fun hg => ?_)
    · walk_at "go"
      exact ⟨_, _, _, rfl, h1, h2, rfl⟩
    · walk_at "go"
      exact ⟨_, _, _, rfl, by omega, by omega, rfl⟩
  · rintro σ H3 ⟨g, m, y, rfl, h1, h2, rfl⟩
    walk_at "go"
    intro D nD
    have nD2 : upd H c (.lst (cutV (ns.map V.int) none (some 63))) D = none := nD
    exact q D _ (Evl.fresh_back (ex_new nc) nD2) ((ex_new nc).trans (ex_new nD2)) ⟨_, _, _, upd_same, h1, h2⟩
end

/-- C's __init__ with one field -/
def spI1 (C : Addr) (f : Str) : Sp := fun vs H Q _ => ∃ (a : Addr) (y : V), vs = [.ref a, y] ∧ H a = some (exo a C none) ∧
  ∀ dx H', Evl.Ex (del H a) H' → H' a = some (exo a C (some dx)) → H' dx = some (exd dx [(f, y)]) → Q .non H'
/-- .. with two -/
def spI2 (C : Addr) (f g : Str) : Sp := fun vs H Q _ => ∃ (a : Addr) (y z : V), vs = [.ref a, y, z] ∧ H a = some (exo a C none) ∧
  ∀ dx H', Evl.Ex (del H a) H' → H' a = some (exo a C (some dx)) → H' dx = some (exd dx [(g, z), (f, y)]) → Q .non H'
theorem ex_st {H : Hp} {a dx : Addr} {o u : HO} (n : H dx = none) : Evl.Ex (del H a) (upd (upd H dx o) a u) := fun b v e => by
  by_cases hb : b = a
  · rw [hb, del_same] at e
    cases e
  · rw [del_ne hb] at e
    rw [upd_ne hb, upd_ne (ne_of_none e n)]
    exact e
section
variable {P : Program} {w : World} {K : PySem.W.Frag} {mg : Str → Option Value} {base : Heap}

theorem ok_i_BadRule (T : Txt K mg) : FnOk P w K mg base CX0 1 T.i_BadRule.f T.i_BadRule.fd ["self", "word"] (spI1 (T.C 2) "word") := by
  refine T.i_BadRule.F.ok sci_BadRule (fun vs H Q E h => ?_) (fun cdv A outer s H vs Q E hr h => ?_)
  · obtain ⟨a, y, rfl, _⟩ := h
    rfl
  obtain ⟨a, y, rfl, ea, q⟩ := h
  have nd := sci_BadRule.nd
  refine ⟨_, pss_one (ps_est (pv 0) (pv 1)), ?_⟩
  refine ⟨_, rfl, _, rfl, a, T.C 2, rfl, T.ek (by decide), T.n_BadRule_word, ea, fun dx n ne => ?_⟩
  exact q dx _ (ex_st n) upd_same (by rw [upd_ne ne]; exact upd_same)

theorem ok_i_NoStretch (T : Txt K mg) : FnOk P w K mg base CX0 1 T.i_NoStretch.f T.i_NoStretch.fd ["self", "stretch"] (spI1 (T.C 3) "stretch") := by
  refine T.i_NoStretch.F.ok sci_NoStretch (fun vs H Q E h => ?_) (fun cdv A outer s H vs Q E hr h => ?_)
  · obtain ⟨a, y, rfl, _⟩ := h
    rfl
  obtain ⟨a, y, rfl, ea, q⟩ := h
  have nd := sci_NoStretch.nd
  refine ⟨_, pss_one (ps_est (pv 0) (pv 1)), ?_⟩
  refine ⟨_, rfl, _, rfl, a, T.C 3, rfl, T.ek (by decide), T.n_NoStretch_stretch, ea, fun dx n ne => ?_⟩
  exact q dx _ (ex_st n) upd_same (by rw [upd_ne ne]; exact upd_same)

theorem ok_i_NoMantissa (T : Txt K mg) : FnOk P w K mg base CX0 1 T.i_NoMantissa.f T.i_NoMantissa.fd ["self", "value"] (spI1 (T.C 4) "value") := by
  refine T.i_NoMantissa.F.ok sci_NoMantissa (fun vs H Q E h => ?_) (fun cdv A outer s H vs Q E hr h => ?_)
  · obtain ⟨a, y, rfl, _⟩ := h
    rfl
  obtain ⟨a, y, rfl, ea, q⟩ := h
  have nd := sci_NoMantissa.nd
  refine ⟨_, pss_one (ps_est (pv 0) (pv 1)), ?_⟩
  refine ⟨_, rfl, _, rfl, a, T.C 4, rfl, T.ek (by decide), T.n_NoMantissa_value, ea, fun dx n ne => ?_⟩
  exact q dx _ (ex_st n) upd_same (by rw [upd_ne ne]; exact upd_same)

theorem ok_i_NoPosition (T : Txt K mg) : FnOk P w K mg base CX0 1 T.i_NoPosition.f T.i_NoPosition.fd ["self", "value"] (spI1 (T.C 5) "value") := by
  refine T.i_NoPosition.F.ok sci_NoPosition (fun vs H Q E h => ?_) (fun cdv A outer s H vs Q E hr h => ?_)
  · obtain ⟨a, y, rfl, _⟩ := h
    rfl
  obtain ⟨a, y, rfl, ea, q⟩ := h
  have nd := sci_NoPosition.nd
  refine ⟨_, pss_one (ps_est (pv 0) (pv 1)), ?_⟩
  refine ⟨_, rfl, _, rfl, a, T.C 5, rfl, T.ek (by decide), T.n_NoPosition_value, ea, fun dx n ne => ?_⟩
  exact q dx _ (ex_st n) upd_same (by rw [upd_ne ne]; exact upd_same)

theorem ok_i_BadWorking (T : Txt K mg) : FnOk P w K mg base CX0 1 T.i_BadWorking.f T.i_BadWorking.fd ["self", "error"] (spI1 (T.C 6) "error") := by
  refine T.i_BadWorking.F.ok sci_BadWorking (fun vs H Q E h => ?_) (fun cdv A outer s H vs Q E hr h => ?_)
  · obtain ⟨a, y, rfl, _⟩ := h
    rfl
  obtain ⟨a, y, rfl, ea, q⟩ := h
  have nd := sci_BadWorking.nd
  refine ⟨_, pss_one (ps_est (pv 0) (pv 1)), ?_⟩
  refine ⟨_, rfl, _, rfl, a, T.C 6, rfl, T.ek (by decide), T.n_BadWorking_error, ea, fun dx n ne => ?_⟩
  exact q dx _ (ex_st n) upd_same (by rw [upd_ne ne]; exact upd_same)

theorem ok_i_BadText (T : Txt K mg) : FnOk P w K mg base CX0 1 T.i_BadText.f T.i_BadText.fd ["self", "place"] (spI1 (T.C 8) "place") := by
  refine T.i_BadText.F.ok sci_BadText (fun vs H Q E h => ?_) (fun cdv A outer s H vs Q E hr h => ?_)
  · obtain ⟨a, y, rfl, _⟩ := h
    rfl
  obtain ⟨a, y, rfl, ea, q⟩ := h
  have nd := sci_BadText.nd
  refine ⟨_, pss_one (ps_est (pv 0) (pv 1)), ?_⟩
  refine ⟨_, rfl, _, rfl, a, T.C 8, rfl, T.ek (by decide), T.n_BadText_place, ea, fun dx n ne => ?_⟩
  exact q dx _ (ex_st n) upd_same (by rw [upd_ne ne]; exact upd_same)

theorem ok_i_TooMany (T : Txt K mg) : FnOk P w K mg base CX0 1 T.i_TooMany.f T.i_TooMany.fd ["self", "limit"] (spI1 (T.C 9) "limit") := by
  refine T.i_TooMany.F.ok sci_TooMany (fun vs H Q E h => ?_) (fun cdv A outer s H vs Q E hr h => ?_)
  · obtain ⟨a, y, rfl, _⟩ := h
    rfl
  obtain ⟨a, y, rfl, ea, q⟩ := h
  have nd := sci_TooMany.nd
  refine ⟨_, pss_one (ps_est (pv 0) (pv 1)), ?_⟩
  refine ⟨_, rfl, _, rfl, a, T.C 9, rfl, T.ek (by decide), T.n_TooMany_limit, ea, fun dx n ne => ?_⟩
  exact q dx _ (ex_st n) upd_same (by rw [upd_ne ne]; exact upd_same)

theorem ok_i_BadWish (T : Txt K mg) : FnOk P w K mg base CX0 1 T.i_BadWish.f T.i_BadWish.fd ["self", "word"] (spI1 (T.C 10) "word") := by
  refine T.i_BadWish.F.ok sci_BadWish (fun vs H Q E h => ?_) (fun cdv A outer s H vs Q E hr h => ?_)
  · obtain ⟨a, y, rfl, _⟩ := h
    rfl
  obtain ⟨a, y, rfl, ea, q⟩ := h
  have nd := sci_BadWish.nd
  refine ⟨_, pss_one (ps_est (pv 0) (pv 1)), ?_⟩
  refine ⟨_, rfl, _, rfl, a, T.C 10, rfl, T.ek (by decide), T.n_BadWish_word, ea, fun dx n ne => ?_⟩
  exact q dx _ (ex_st n) upd_same (by rw [upd_ne ne]; exact upd_same)

theorem ok_i_BadFeatures (T : Txt K mg) : FnOk P w K mg base CX0 1 T.i_BadFeatures.f T.i_BadFeatures.fd ["self", "index"] (spI1 (T.C 11) "index") := by
  refine T.i_BadFeatures.F.ok sci_BadFeatures (fun vs H Q E h => ?_) (fun cdv A outer s H vs Q E hr h => ?_)
  · obtain ⟨a, y, rfl, _⟩ := h
    rfl
  obtain ⟨a, y, rfl, ea, q⟩ := h
  have nd := sci_BadFeatures.nd
  refine ⟨_, pss_one (ps_est (pv 0) (pv 1)), ?_⟩
  refine ⟨_, rfl, _, rfl, a, T.C 11, rfl, T.ek (by decide), T.n_BadFeatures_index, ea, fun dx n ne => ?_⟩
  exact q dx _ (ex_st n) upd_same (by rw [upd_ne ne]; exact upd_same)

theorem ok_i_Off (T : Txt K mg) : FnOk P w K mg base CX0 1 T.i_Off.f T.i_Off.fd ["self", "number"] (spI1 (T.C 13) "number") := by
  refine T.i_Off.F.ok sci_Off (fun vs H Q E h => ?_) (fun cdv A outer s H vs Q E hr h => ?_)
  · obtain ⟨a, y, rfl, _⟩ := h
    rfl
  obtain ⟨a, y, rfl, ea, q⟩ := h
  have nd := sci_Off.nd
  refine ⟨_, pss_one (ps_est (pv 0) (pv 1)), ?_⟩
  refine ⟨_, rfl, _, rfl, a, T.C 13, rfl, T.ek (by decide), T.n_Off_number, ea, fun dx n ne => ?_⟩
  exact q dx _ (ex_st n) upd_same (by rw [upd_ne ne]; exact upd_same)

theorem ok_i_BadName (T : Txt K mg) : FnOk P w K mg base CX0 1 T.i_BadName.f T.i_BadName.fd ["self", "name"] (spI1 (T.C 14) "name") := by
  refine T.i_BadName.F.ok sci_BadName (fun vs H Q E h => ?_) (fun cdv A outer s H vs Q E hr h => ?_)
  · obtain ⟨a, y, rfl, _⟩ := h
    rfl
  obtain ⟨a, y, rfl, ea, q⟩ := h
  have nd := sci_BadName.nd
  refine ⟨_, pss_one (ps_est (pv 0) (pv 1)), ?_⟩
  refine ⟨_, rfl, _, rfl, a, T.C 14, rfl, T.ek (by decide), T.n_BadName_name, ea, fun dx n ne => ?_⟩
  exact q dx _ (ex_st n) upd_same (by rw [upd_ne ne]; exact upd_same)

theorem ok_i_Unkept (T : Txt K mg) : FnOk P w K mg base CX0 1 T.i_Unkept.f T.i_Unkept.fd ["self", "name"] (spI1 (T.C 16) "name") := by
  refine T.i_Unkept.F.ok sci_Unkept (fun vs H Q E h => ?_) (fun cdv A outer s H vs Q E hr h => ?_)
  · obtain ⟨a, y, rfl, _⟩ := h
    rfl
  obtain ⟨a, y, rfl, ea, q⟩ := h
  have nd := sci_Unkept.nd
  refine ⟨_, pss_one (ps_est (pv 0) (pv 1)), ?_⟩
  refine ⟨_, rfl, _, rfl, a, T.C 16, rfl, T.ek (by decide), T.n_Unkept_name, ea, fun dx n ne => ?_⟩
  exact q dx _ (ex_st n) upd_same (by rw [upd_ne ne]; exact upd_same)

theorem ok_i_Missing (T : Txt K mg) : FnOk P w K mg base CX0 1 T.i_Missing.f T.i_Missing.fd ["self", "name"] (spI1 (T.C 20) "name") := by
  refine T.i_Missing.F.ok sci_Missing (fun vs H Q E h => ?_) (fun cdv A outer s H vs Q E hr h => ?_)
  · obtain ⟨a, y, rfl, _⟩ := h
    rfl
  obtain ⟨a, y, rfl, ea, q⟩ := h
  have nd := sci_Missing.nd
  refine ⟨_, pss_one (ps_est (pv 0) (pv 1)), ?_⟩
  refine ⟨_, rfl, _, rfl, a, T.C 20, rfl, T.ek (by decide), T.n_Missing_name, ea, fun dx n ne => ?_⟩
  exact q dx _ (ex_st n) upd_same (by rw [upd_ne ne]; exact upd_same)

theorem ok_i_NoScale (T : Txt K mg) : FnOk P w K mg base CX0 1 T.i_NoScale.f T.i_NoScale.fd ["self", "name"] (spI1 (T.C 21) "name") := by
  refine T.i_NoScale.F.ok sci_NoScale (fun vs H Q E h => ?_) (fun cdv A outer s H vs Q E hr h => ?_)
  · obtain ⟨a, y, rfl, _⟩ := h
    rfl
  obtain ⟨a, y, rfl, ea, q⟩ := h
  have nd := sci_NoScale.nd
  refine ⟨_, pss_one (ps_est (pv 0) (pv 1)), ?_⟩
  refine ⟨_, rfl, _, rfl, a, T.C 21, rfl, T.ek (by decide), T.n_NoScale_name, ea, fun dx n ne => ?_⟩
  exact q dx _ (ex_st n) upd_same (by rw [upd_ne ne]; exact upd_same)

theorem ok_i_NoWorking (T : Txt K mg) : FnOk P w K mg base CX0 1 T.i_NoWorking.f T.i_NoWorking.fd ["self", "name"] (spI1 (T.C 22) "name") := by
  refine T.i_NoWorking.F.ok sci_NoWorking (fun vs H Q E h => ?_) (fun cdv A outer s H vs Q E hr h => ?_)
  · obtain ⟨a, y, rfl, _⟩ := h
    rfl
  obtain ⟨a, y, rfl, ea, q⟩ := h
  have nd := sci_NoWorking.nd
  refine ⟨_, pss_one (ps_est (pv 0) (pv 1)), ?_⟩
  refine ⟨_, rfl, _, rfl, a, T.C 22, rfl, T.ek (by decide), T.n_NoWorking_name, ea, fun dx n ne => ?_⟩
  exact q dx _ (ex_st n) upd_same (by rw [upd_ne ne]; exact upd_same)

theorem oexc {C SE : Addr} {nm : Str} (T : ExC K C nm (.ref SE :: veL) "ValueError.__new__") : OexC K C := by
  obtain ⟨q, N, bs, sn, sub, ab, col, dd, k0, k1, k2, k3, k5, h⟩ := T.cls
  exact ⟨⟨nm, q, N, bs, _, sn, sub, ab, col, dd, k0, k1, k2, k3, k5, h, by rfl⟩, T.sa, T.has "BaseException" (by rfl), T.ty, T.kp⟩
theorem ok_i_Misfit (T : Txt K mg) : FnOk P w K mg base CX0 1 T.i_Misfit.f T.i_Misfit.fd ["self", "number", "word"] (spI2 (T.C 7) "number" "word") := by
  refine T.i_Misfit.F.ok sci_Misfit (fun vs H Q E h => ?_) (fun cdv A outer s H vs Q E hr h => ?_)
  · obtain ⟨a, y, z, rfl, _⟩ := h
    rfl
  obtain ⟨a, y, z, rfl, ea, q⟩ := h
  have nd := sci_Misfit.nd
  refine ⟨_, pss_cons (ps_ost (pv 0) (pv 1)) (pss_one (ps_ost (pv 0) (pv 2))), ?_⟩
  have oc := oexc T.Misfit.e
  refine ⟨_, rfl, _, rfl, a, T.C 7, rfl, oc, T.n_Misfit_number, Or.inl ⟨ea, fun dx n ne => ?_⟩⟩
  refine ⟨_, rfl, _, rfl, a, T.C 7, rfl, oc, T.n_Misfit_word, Or.inr ⟨dx, _, upd_same, by rw [upd_ne ne]; exact upd_same, (by show 1 ≤ 900; omega), ?_⟩⟩
  refine q dx _ (fun b v e => ?_) (by rw [upd_ne (Ne.symm ne)]; exact upd_same) upd_same
  by_cases hb : b = a
  · rw [hb, del_same] at e
    cases e
  · rw [del_ne hb] at e
    rw [upd_ne (ne_of_none e n), upd_ne hb, upd_ne (ne_of_none e n)]
    exact e
end
end K5
namespace K5
open PySem PySem.Spec PyProof.Rows L2 Qj
local macro_rules | `(tactic| walk_at "go") => `(tactic| repeat (first
  | (refine ⟨_, rfl, ?_⟩)
  | (refine ⟨_, _, rfl, rfl, ?_⟩)
  | (refine ⟨_, _, rfl, ?_⟩)
  | (refine ⟨_, _, _, _, rfl, rfl, SqL.of (by assumption), rfl, ?_⟩)
  | (refine ⟨_, _, _, _, rfl, rfl, SqL.of upd_same, rfl, ?_⟩)
  | (refine ⟨_, _, _, _, rfl, rfl, SqT.of (by assumption), rfl, ?_⟩)
  | (refine ⟨_, _, _, _, rfl, rfl, SqT.of upd_same, rfl, ?_⟩)
  | (refine ⟨_, _, _, _, rfl, rfl, (by assumption), rfl, ?_⟩)
  | (refine ⟨_, _, _, _, rfl, rfl, upd_same, rfl, ?_⟩)
  | (refine ⟨_, _, rfl, Or.inl (by assumption), ?_⟩)
  | (refine ⟨_, _, rfl, Or.inr (SqT.of (by assumption)), ?_⟩)
  | (refine ⟨_, _, rfl, Or.inr (SqT.of upd_same), ?_⟩)
  | (refine ⟨_, _, rfl, Or.inl (SqL.of (by assumption)), ?_⟩)
  | (refine ⟨_, _, rfl, SqT.of (by assumption), rfl, ?_⟩)
  | (refine ⟨_, _, rfl, Kn.int _, ?_⟩)
  | (refine ⟨_, _, rfl, (by assumption : Kn _ _ _), ?_⟩)
  | (refine iteNS rfl ?_)
  | (refine iteF ?_)
  | (refine iteT ?_)
  | (refine Or.inl ⟨_, rfl, ?_⟩)
  | (refine Or.inr ⟨_, rfl, ?_⟩)
  | (refine And.intro sz4 ?_)
  | (refine And.intro (by first | exact rfl | assumption | decide | (show (0 : Int) < _; decide) | exact wide_div (b := 63) (by assumption) (by omega) (by decide) (by decide) | exact wide_div (b := 63) (by decide) (by decide) (by decide) (by decide) | exact Or.inl ⟨by decide, by decide⟩ | exact Or.inr ⟨by decide, by decide⟩ | exact ⟨by decide, by decide, by decide⟩ | exact Or.inl ⟨by omega, by omega⟩ | exact Or.inr ⟨by omega, by omega⟩) ?_)))

/-- no list of two -/
def nt : PyData → Prop
  | .list [_, _] => False
  | _ => True
/-- a drawn value -/
def spVal : Sp := fun vs H Q _ => ∃ D, vs = [.ref D] ∧ DeckAt H D ∧ ∀ v d H', Bu D H H' → DeckAt H' D → Vd H' v d → nt d → Q v H'
theorem deck_ne {H : Hp} {D p : Addr} {o : HO} (d : DeckAt H D) (h : H p = some o) (n : ∀ a b c, o ≠ .lst [a, b, c]) : p ≠ D := by
  obtain ⟨g, m, c, e, _⟩ := d
  intro z
  subst z
  rw [h] at e
  exact n _ _ _ (Option.some.inj e)
theorem Vd.bu {H H' : Hp} {D : Addr} {v : V} {d : PyData} (k : DeckAt H D) (b : Bu D H H') (h : Vd H v d) : Vd H' v d := by
  cases h with
  | non => exact .non
  | tru => exact .tru
  | int i h => exact .int i h
  | num i h => exact .num i h
  | emp => exact .emp
  | tup hi hj e => exact .tup hi hj (b _ _ (deck_ne k e (fun _ _ _ z => by cases z)) e)
  | nil e => exact .nil (b _ _ (deck_ne k e (fun _ _ _ z => by cases z)) e)
  | lst h e => exact .lst h (b _ _ (deck_ne k e (fun _ _ _ z => by cases z)) e)
  | two h hj e => exact .two h hj (b _ _ (deck_ne k e (fun _ _ _ z => by cases z)) e)
  | dic hx h e => exact .dic hx h (b _ _ (deck_ne k e (fun _ _ _ z => by cases z)) e)
section
variable {P : Program} {w : World} {K : PySem.W.Frag} {mg : Str → Option Value} {base : Heap}
theorem ok__law_value (T : Txt K mg) : FnOk P w K mg base CX0 2 T._law_value.f T._law_value.fd ["_law_deck_here"] spVal := by
  refine T._law_value.F.ok sc__law_value (fun vs H Q E h => ?_) (fun cdv A outer s H vs Q E hr h => ?_)
  · obtain ⟨D, rfl, _⟩ := h
    rfl
  obtain ⟨D, rfl, d0, q⟩ := h
  have nd := sc__law_value.nd
  refine ⟨_, (pss_cons (ps_set (i := 1) nd rfl (.inl rfl) (pe_call (ok__law_take T) (hr.mono (by decide)) (by rfl) T._law_take.g T._law_take.F.kp T._law_take.b .nil pass0 (pa_cons (pv 0) (pa_cons (pe_op op_pow pe_int pe_int) pa_nil))))
      (pss_cons (ps_set (i := 2) nd rfl (.inl rfl) (pe_tup (pa_cons pe_non (pa_cons pe_bl (pa_cons (pv 1) (pa_cons (pe_un un_neg (pv 1)) (pa_cons (pe_callTy call_str_int (by rfl) T.m_str boot_str (pa_cons (pv 1) pa_nil)) (pa_cons (pe_tup (pa_cons (pv 1) (pa_cons pe_int pa_nil))) (pa_cons (pe_lst (pa_cons (pv 1) pa_nil)) (pa_cons (pe_disp (pps_cons pe_str pe_int pps_nil) (by rfl) (by rfl) (fun z => by cases z) (by decide)) (pa_cons pe_str (pa_cons (pe_tup pa_nil) pa_nil))))))))))))
      (pss_one (ps_ret (pe_ix ix_tup (pv 2) (pe_call (ok__law_take T) (hr.mono (by decide)) (by rfl) T._law_take.g T._law_take.F.kp T._law_take.b .nil pass0 (pa_cons (pv 0) (pa_cons (pe_callB call_len_seq (by rfl) T.m_len (by decide +kernel) (pa_cons (pv 2) pa_nil)) pa_nil))) (fun _ _ => rfl)))))), ?_⟩
  walk_at "go"
  intro n H1 n0 n1 bu1 d1
  walk_at "go"
  have e6 : (10 : Int) ^ Int.toNat 6 = 1000000 := by decide
  rw [e6] at n1
  have nn : n.natAbs < 2 ^ 30 := by omega
  have nm : (-n).natAbs < 2 ^ 30 := by omega
  have lg : n.natAbs.log2 < 1920 := Nat.lt_trans (PySem.Flt.log2_lt_of (by decide) nn) (by decide)
  refine ⟨lg, ?_⟩
  walk_at "go"
  intro p1 np1
  walk_at "go"
  intro p2 np2
  walk_at "go"
  intro p3 np3
  refine And.intro upd_same ⟨[(.inr "x", .int 7)], rfl, (by show 1 ≤ 15; omega), ?_⟩
  walk_at "go"
  intro p4 np4
  walk_at "go"
  intro p5 np5
  walk_at "go"
  have E4 := Evl.Ex.mut (o := .dK (mergeK [] [(.inr "x", .int 7)])) (ex_new (o := .dK []) np3) np3
  have E5 := ex_new (o := .tup []) np4
  have E6 := ex_new (o := .tup [V.non, V.bl true, V.int n, V.int (-n), V.str (Str.ofString (toString n)), V.ref p1, V.ref p2, V.ref p3, V.str (Str.ofString ""), V.ref p4]) np5
  have E36 := E4.trans (E5.trans E6)
  have E26 := (ex_new (o := .lst [V.int n]) np2).trans E36
  have E16 := (ex_new (o := .tup [V.int n, V.int 1]) np1).trans E26
  have d6 := d1.ex E16
  have t1 := E26 _ _ upd_same
  have t2 := E36 _ _ upd_same
  have t3 := (E5.trans E6) _ _ upd_same
  have t4 := E6 _ _ upd_same
  refine ⟨d6, (show (0 : Int) < 10 by decide), (show (10 : Int) < 2 ^ 63 by decide), fun v H7 v0 v1 bu7 d7 => ?_⟩
  have v2 : v < 10 := v1
  have BB : Bu D H H7 := fun a o ne e => bu7 a o ne (E16 a o (bu1 a o ne e))
  have t5 := bu7 _ _ (deck_ne d6 upd_same (fun _ _ _ z => by cases z)) upd_same
  have t1 := bu7 _ _ (deck_ne d6 t1 (fun _ _ _ z => by cases z)) t1
  have t2 := bu7 _ _ (deck_ne d6 t2 (fun _ _ _ z => by cases z)) t2
  have t3 := bu7 _ _ (deck_ne d6 t3 (fun _ _ _ z => by cases z)) t3
  have t4 := bu7 _ _ (deck_ne d6 t4 (fun _ _ _ z => by cases z)) t4
  obtain rfl | rfl | rfl | rfl | rfl | rfl | rfl | rfl | rfl | rfl : v = 0 ∨ v = 1 ∨ v = 2 ∨ v = 3 ∨ v = 4 ∨ v = 5 ∨ v = 6 ∨ v = 7 ∨ v = 8 ∨ v = 9 := by omega
  · walk_at "go"
    exact q _ _ _ BB d7 .non trivial
  · walk_at "go"
    exact q _ _ _ BB d7 .tru trivial
  · walk_at "go"
    exact q _ _ _ BB d7 (.int n nn) trivial
  · walk_at "go"
    exact q _ _ _ BB d7 (.int (-n) nm) trivial
  · walk_at "go"
    exact q _ _ _ BB d7 (.num n nn) trivial
  · walk_at "go"
    exact q _ _ _ BB d7 (.tup nn (by decide) t1) trivial
  · walk_at "go"
    exact q _ _ _ BB d7 (.lst nn t2) trivial
  · walk_at "go"
    exact q _ _ _ BB d7 (.dic (x := "x") rfl (by decide) t3) trivial
  · walk_at "go"
    exact q _ _ _ BB d7 .emp trivial
  · walk_at "go"
    exact q _ _ _ BB d7 (.nil t4) trivial
end
end K5
namespace K5
open PySem PySem.Spec PyProof.Rows L2 Qj
local macro_rules | `(tactic| walk_at "go") => `(tactic| repeat (first
  | (refine ⟨_, rfl, ?_⟩)
  | (refine ⟨_, _, rfl, rfl, ?_⟩)
  | (refine ⟨_, _, rfl, ?_⟩)
  | (refine ⟨_, _, _, _, rfl, rfl, SqL.of (by assumption), rfl, ?_⟩)
  | (refine ⟨_, _, _, _, rfl, rfl, SqL.of upd_same, rfl, ?_⟩)
  | (refine ⟨_, _, _, _, rfl, rfl, SqT.of (by assumption), rfl, ?_⟩)
  | (refine ⟨_, _, _, _, rfl, rfl, SqT.of upd_same, rfl, ?_⟩)
  | (refine ⟨_, _, _, _, rfl, rfl, (by assumption), rfl, ?_⟩)
  | (refine ⟨_, _, _, _, rfl, rfl, upd_same, rfl, ?_⟩)
  | (refine ⟨_, _, rfl, Or.inl (by assumption), ?_⟩)
  | (refine ⟨_, _, rfl, Or.inr (SqT.of (by assumption)), ?_⟩)
  | (refine ⟨_, _, rfl, Or.inr (SqT.of upd_same), ?_⟩)
  | (refine ⟨_, _, rfl, Or.inl (SqL.of (by assumption)), ?_⟩)
  | (refine ⟨_, _, rfl, SqT.of (by assumption), rfl, ?_⟩)
  | (refine ⟨_, _, rfl, Kn.int _, ?_⟩)
  | (refine ⟨_, _, rfl, (by assumption : Kn _ _ _), ?_⟩)
  | (refine iteNS rfl ?_)
  | (refine iteF ?_)
  | (refine iteT ?_)
  | (refine Or.inl ⟨_, rfl, ?_⟩)
  | (refine Or.inr ⟨_, rfl, ?_⟩)
  | (refine And.intro sz4 ?_)
  | (refine And.intro (by first | exact rfl | assumption | decide | (show (0 : Int) < _; decide) | exact wide_div (b := 63) (by assumption) (by omega) (by decide) (by decide) | exact wide_div (b := 63) (by decide) (by decide) (by decide) (by decide) | exact Or.inl ⟨by decide, by decide⟩ | exact Or.inr ⟨by decide, by decide⟩ | exact ⟨by decide, by decide, by decide⟩ | exact Or.inl ⟨by omega, by omega⟩ | exact Or.inr ⟨by omega, by omega⟩) ?_)))

/-- what is carried along while objects are made: all that stood at H0, and these -/
structure Cy (H0 : Hp) (ls : List (Addr × HO)) (H : Hp) : Prop where
  ex : Evl.Ex H0 H
  at_ : ∀ x ∈ ls, H x.1 = some x.2
theorem Cy.up {H0 H H' : Hp} {ls : List (Addr × HO)} (c : Cy H0 ls H) (e : Evl.Ex H H') : Cy H0 ls H' := ⟨c.ex.trans e, fun x h => e _ _ (c.at_ x h)⟩
theorem Cy.refl (H : Hp) : Cy H [] H := ⟨Evl.Ex.refl H, fun _ h => nomatch h⟩
theorem Cy.put {H0 H : Hp} {ls : List (Addr × HO)} {p : Addr} {o : HO} (c : Cy H0 ls H) (e : H p = some o) : Cy H0 ((p, o) :: ls) H := ⟨c.ex, fun x h => by
  rcases List.mem_cons.mp h with z | z
  · rw [z]; exact e
  · exact c.at_ x z⟩
theorem Cy.tl {H0 H : Hp} {ls : List (Addr × HO)} {q : Addr × HO} (c : Cy H0 (q :: ls) H) : Cy H0 ls H := ⟨c.ex, fun x h => c.at_ x (List.mem_cons_of_mem _ h)⟩
theorem Cy.hd {H0 H : Hp} {ls : List (Addr × HO)} {p : Addr} {o : HO} (c : Cy H0 ((p, o) :: ls) H) : H p = some o := c.at_ (p, o) (List.mem_cons_self ..)
section
variable {K : PySem.W.Frag} {C : Addr} {f g : Str} {y z : V} {H0 H1 : Hp} {Q : VK} {ls : List (Addr × HO)} {xs zs : List V}
theorem ex_del {H H' : Hp} {a : Addr} {o : HO} (n : H a = none) (e : Evl.Ex (del (upd H a o) a) H') : Evl.Ex H H' := fun b v h => e b v (by
  have nb : b ≠ a := fun z => by rw [z, n] at h; cases h
  rw [del_ne nb, upd_ne nb]
  exact h)
/-- C(y), made -/
theorem mk1 (E : Cy H0 ls H1) (h : ∀ a dx H2, Cy H0 ls H2 → H2 a = some (exo a C (some dx)) → H2 dx = some (exd dx [(f, y)]) → Q (.ref a) H2) :
    [y].length ≤ 1000 ∧ ∀ a, H1 a = none → spI1 C f (.ref a :: [y]) (upd H1 a (exo a C none)) (fun v H2 => v = .non ∧ Q (.ref a) H2) (fun _ _ _ => False) :=
  ⟨by show 1 ≤ 1000; omega, fun a n => ⟨a, y, rfl, upd_same, fun dx H2 e ea ed => ⟨rfl, h a dx H2 (E.up (ex_del n e)) ea ed⟩⟩⟩
theorem mk2 (E : Cy H0 ls H1) (h : ∀ a dx H2, Cy H0 ls H2 → H2 a = some (exo a C (some dx)) → H2 dx = some (exd dx [(g, z), (f, y)]) → Q (.ref a) H2) :
    [y, z].length ≤ 1000 ∧ ∀ a, H1 a = none → spI2 C f g (.ref a :: [y, z]) (upd H1 a (exo a C none)) (fun v H2 => v = .non ∧ Q (.ref a) H2) (fun _ _ _ => False) :=
  ⟨by show 2 ≤ 1000; omega, fun a n => ⟨a, y, z, rfl, upd_same, fun dx H2 e ea ed => ⟨rfl, h a dx H2 (E.up (ex_del n e)) ea ed⟩⟩⟩
/-- C(y).f -/
theorem fld1 (ek : EcK K C) (no : PySem.W.findIn K (.ref C) f = some none) (E : Cy H0 ls H1) (h : ∀ H2, Cy H0 ls H2 → Q y H2) :
    [y].length ≤ 1000 ∧ ∀ a, H1 a = none → spI1 C f (.ref a :: [y]) (upd H1 a (exo a C none)) (fun v H2 => v = .non ∧ ∃ (a2 C2 dx : Addr) (fs : List (Str × V)) (v2 : V), V.ref a = .ref a2 ∧ EcK K C2 ∧ PySem.W.findIn K (.ref C2) f = some none ∧
      H2 a2 = some (exo a2 C2 (some dx)) ∧ H2 dx = some (exd dx fs) ∧ fs.lookup f = some v2 ∧ Q v2 H2) (fun _ _ _ => False) :=
  mk1 (Q := fun x H2 => ∃ (a2 C2 dx : Addr) (fs : List (Str × V)) (v2 : V), x = .ref a2 ∧ EcK K C2 ∧ PySem.W.findIn K (.ref C2) f = some none ∧ H2 a2 = some (exo a2 C2 (some dx)) ∧ H2 dx = some (exd dx fs) ∧ fs.lookup f = some v2 ∧ Q v2 H2) E
    fun a dx H2 c ea ed => ⟨a, C, dx, _, y, rfl, ek, no, ea, ed, by simp [List.lookup], h H2 c⟩
/-- C(y, z).k -/
theorem fld2 {k : Str} {u : V} (ek : EcK K C) (no : PySem.W.findIn K (.ref C) k = some none) (hl : ([(g, z), (f, y)] : List (Str × V)).lookup k = some u) (E : Cy H0 ls H1) (h : ∀ H2, Cy H0 ls H2 → Q u H2) :
    [y, z].length ≤ 1000 ∧ ∀ a, H1 a = none → spI2 C f g (.ref a :: [y, z]) (upd H1 a (exo a C none)) (fun v H2 => v = .non ∧ ∃ (a2 C2 dx : Addr) (fs : List (Str × V)) (v2 : V), V.ref a = .ref a2 ∧ EcK K C2 ∧ PySem.W.findIn K (.ref C2) k = some none ∧
      H2 a2 = some (exo a2 C2 (some dx)) ∧ H2 dx = some (exd dx fs) ∧ fs.lookup k = some v2 ∧ Q v2 H2) (fun _ _ _ => False) :=
  mk2 (Q := fun x H2 => ∃ (a2 C2 dx : Addr) (fs : List (Str × V)) (v2 : V), x = .ref a2 ∧ EcK K C2 ∧ PySem.W.findIn K (.ref C2) k = some none ∧ H2 a2 = some (exo a2 C2 (some dx)) ∧ H2 dx = some (exd dx fs) ∧ fs.lookup k = some v2 ∧ Q v2 H2) E
    fun a dx H2 c ea ed => ⟨a, C, dx, _, u, rfl, ek, no, ea, ed, hl, h H2 c⟩
/-- two lists put together; they are dropped -/
theorem cat1 {l b : Addr} (E : Cy H0 ((b, .lst zs) :: (l, .lst xs) :: ls) H1) (hz : xs.length + zs.length ≤ 1000) (h : ∀ p H2, Cy H0 ((p, .lst (xs ++ zs)) :: ls) H2 → Q (.ref p) H2) : rCat (.ref l) (.ref b) H1 Q :=
  ⟨l, b, xs, zs, rfl, rfl, E.tl.hd, E.hd, by have := sizeLine_eq; omega, fun p n => h p _ ((E.tl.tl.up (ex_new n)).put upd_same)⟩
theorem cat1H {l b : Addr} (E : Cy H0 ((b, .lst zs) :: (l, .lst xs) :: ls) H1) (hz : xs.length + zs.length ≤ 1000) (h : ∀ p H2, sysModules < p → Cy H0 ((p, .lst (xs ++ zs)) :: ls) H2 → Q (.ref p) H2) : rCatH (.ref l) (.ref b) H1 Q :=
  ⟨l, b, xs, zs, rfl, rfl, E.tl.hd, E.hd, by have := sizeLine_eq; omega, fun p n hp => h p _ hp ((E.tl.tl.up (ex_new n)).put upd_same)⟩
end
/-- the fields told: one, seventeen times -/
def spFields : Sp := fun vs H Q _ => ∃ x y : V, vs = [x, y] ∧ ∀ p H', Evl.Ex H H' → sysModules < p → H' p = some (.lst (List.replicate 17 x)) → Q (.ref p) H'
section
variable {P : Program} {w : World} {K : PySem.W.Frag} {mg : Str → Option Value} {base : Heap}
theorem ok__law_fields (T : Txt K mg) : FnOk P w K mg base CX0 3 T._law_fields.f T._law_fields.fd ["_law_one", "_law_other"] spFields := by
  refine T._law_fields.F.ok sc__law_fields (fun vs H Q E h => ?_) (fun cdv A outer s H vs Q E hr h => ?_)
  · obtain ⟨x, y, rfl, _⟩ := h
    rfl
  obtain ⟨x, y, rfl, q⟩ := h
  have nd := sc__law_fields.nd
  refine ⟨_, (pss_cons (ps_set (i := 2) nd rfl (.inl rfl) (pe_lst (pa_cons (pe_eat (pe_mkE (C := T.C 2) (T.ek (i := 2) (by decide)) T.i_BadRule.i T.i_BadRule.t (ok_i_BadRule T) (hr.mono (by decide)) T.i_BadRule.b (by rfl) T.BadRule.g T.BadRule.e.kp (pa_cons (pv 0) pa_nil))) (pa_cons (pe_eat (pe_mkE (C := T.C 3) (T.ek (i := 3) (by decide)) T.i_NoStretch.i T.i_NoStretch.t (ok_i_NoStretch T) (hr.mono (by decide)) T.i_NoStretch.b (by rfl) T.NoStretch.g T.NoStretch.e.kp (pa_cons (pv 0) pa_nil))) (pa_cons (pe_eat (pe_mkE (C := T.C 4) (T.ek (i := 4) (by decide)) T.i_NoMantissa.i T.i_NoMantissa.t (ok_i_NoMantissa T) (hr.mono (by decide)) T.i_NoMantissa.b (by rfl) T.NoMantissa.g T.NoMantissa.e.kp (pa_cons (pv 0) pa_nil))) (pa_cons (pe_eat (pe_mkE (C := T.C 5) (T.ek (i := 5) (by decide)) T.i_NoPosition.i T.i_NoPosition.t (ok_i_NoPosition T) (hr.mono (by decide)) T.i_NoPosition.b (by rfl) T.NoPosition.g T.NoPosition.e.kp (pa_cons (pv 0) pa_nil))) pa_nil))))))
      (pss_cons (ps_set (i := 2) nd rfl (.inl rfl) (pe_op op_cat (pv 2) (pe_lst (pa_cons (pe_eat (pe_mkE (C := T.C 6) (T.ek (i := 6) (by decide)) T.i_BadWorking.i T.i_BadWorking.t (ok_i_BadWorking T) (hr.mono (by decide)) T.i_BadWorking.b (by rfl) T.BadWorking.g T.BadWorking.e.kp (pa_cons (pv 0) pa_nil))) (pa_cons (pe_eat (pe_mkE (C := T.C 8) (T.ek (i := 8) (by decide)) T.i_BadText.i T.i_BadText.t (ok_i_BadText T) (hr.mono (by decide)) T.i_BadText.b (by rfl) T.BadText.g T.BadText.e.kp (pa_cons (pv 0) pa_nil))) (pa_cons (pe_eat (pe_mkE (C := T.C 9) (T.ek (i := 9) (by decide)) T.i_TooMany.i T.i_TooMany.t (ok_i_TooMany T) (hr.mono (by decide)) T.i_TooMany.b (by rfl) T.TooMany.g T.TooMany.e.kp (pa_cons (pv 0) pa_nil))) (pa_cons (pe_eat (pe_mkE (C := T.C 10) (T.ek (i := 10) (by decide)) T.i_BadWish.i T.i_BadWish.t (ok_i_BadWish T) (hr.mono (by decide)) T.i_BadWish.b (by rfl) T.BadWish.g T.BadWish.e.kp (pa_cons (pv 0) pa_nil))) pa_nil)))))))
      (pss_cons (ps_set (i := 2) nd rfl (.inl rfl) (pe_op op_cat (pv 2) (pe_lst (pa_cons (pe_eat (pe_mkE (C := T.C 11) (T.ek (i := 11) (by decide)) T.i_BadFeatures.i T.i_BadFeatures.t (ok_i_BadFeatures T) (hr.mono (by decide)) T.i_BadFeatures.b (by rfl) T.BadFeatures.g T.BadFeatures.e.kp (pa_cons (pv 0) pa_nil))) (pa_cons (pe_eat (pe_mkE (C := T.C 13) (T.ek (i := 13) (by decide)) T.i_Off.i T.i_Off.t (ok_i_Off T) (hr.mono (by decide)) T.i_Off.b (by rfl) T.Off.g T.Off.e.kp (pa_cons (pv 0) pa_nil))) (pa_cons (pe_eat (pe_mkE (C := T.C 14) (T.ek (i := 14) (by decide)) T.i_BadName.i T.i_BadName.t (ok_i_BadName T) (hr.mono (by decide)) T.i_BadName.b (by rfl) T.BadName.g T.BadName.e.kp (pa_cons (pv 0) pa_nil))) (pa_cons (pe_eat (pe_mkE (C := T.C 16) (T.ek (i := 16) (by decide)) T.i_Unkept.i T.i_Unkept.t (ok_i_Unkept T) (hr.mono (by decide)) T.i_Unkept.b (by rfl) T.Unkept.g T.Unkept.e.kp (pa_cons (pv 0) pa_nil))) pa_nil)))))))
      (pss_cons (ps_set (i := 2) nd rfl (.inl rfl) (pe_op op_cat (pv 2) (pe_lst (pa_cons (pe_eat (pe_mkE (C := T.C 20) (T.ek (i := 20) (by decide)) T.i_Missing.i T.i_Missing.t (ok_i_Missing T) (hr.mono (by decide)) T.i_Missing.b (by rfl) T.Missing.g T.Missing.e.kp (pa_cons (pv 0) pa_nil))) (pa_cons (pe_eat (pe_mkE (C := T.C 21) (T.ek (i := 21) (by decide)) T.i_NoScale.i T.i_NoScale.t (ok_i_NoScale T) (hr.mono (by decide)) T.i_NoScale.b (by rfl) T.NoScale.g T.NoScale.e.kp (pa_cons (pv 0) pa_nil))) (pa_cons (pe_eat (pe_mkE (C := T.C 22) (T.ek (i := 22) (by decide)) T.i_NoWorking.i T.i_NoWorking.t (ok_i_NoWorking T) (hr.mono (by decide)) T.i_NoWorking.b (by rfl) T.NoWorking.g T.NoWorking.e.kp (pa_cons (pv 0) pa_nil))) pa_nil))))))
      (pss_one (ps_ret (pe_op op_catH (pv 2) (pe_lst (pa_cons (pe_eat (pe_mkE (C := T.C 7) (T.ek (i := 7) (by decide)) T.i_Misfit.i T.i_Misfit.t (ok_i_Misfit T) (hr.mono (by decide)) T.i_Misfit.b (by rfl) T.Misfit.g T.Misfit.e.kp (pa_cons (pv 0) (pa_cons (pv 1) pa_nil)))) (pa_cons (pe_eat (pe_mkE (C := T.C 7) (T.ek (i := 7) (by decide)) T.i_Misfit.i T.i_Misfit.t (ok_i_Misfit T) (hr.mono (by decide)) T.i_Misfit.b (by rfl) T.Misfit.g T.Misfit.e.kp (pa_cons (pv 1) (pa_cons (pv 0) pa_nil)))) pa_nil)))))))))), ?_⟩
  have c := Cy.refl H

  walk_at "go"
  refine fld1 (C := T.C 2) (f := "word") (T.ek (i := 2) (by decide)) T.n_BadRule_word c (fun H c => ?_)
  walk_at "go"
  refine fld1 (C := T.C 3) (f := "stretch") (T.ek (i := 3) (by decide)) T.n_NoStretch_stretch c (fun H c => ?_)
  walk_at "go"
  refine fld1 (C := T.C 4) (f := "value") (T.ek (i := 4) (by decide)) T.n_NoMantissa_value c (fun H c => ?_)
  walk_at "go"
  refine fld1 (C := T.C 5) (f := "value") (T.ek (i := 5) (by decide)) T.n_NoPosition_value c (fun H c => ?_)
  walk_at "go"
  intro p n
  have c := (c.up (ex_new (o := .lst [x, x, x, x]) n)).put (p := p) upd_same
  walk_at "go"
  refine fld1 (C := T.C 6) (f := "error") (T.ek (i := 6) (by decide)) T.n_BadWorking_error c (fun H c => ?_)
  walk_at "go"
  refine fld1 (C := T.C 8) (f := "place") (T.ek (i := 8) (by decide)) T.n_BadText_place c (fun H c => ?_)
  walk_at "go"
  refine fld1 (C := T.C 9) (f := "limit") (T.ek (i := 9) (by decide)) T.n_TooMany_limit c (fun H c => ?_)
  walk_at "go"
  refine fld1 (C := T.C 10) (f := "word") (T.ek (i := 10) (by decide)) T.n_BadWish_word c (fun H c => ?_)
  walk_at "go"
  intro p n
  have c := (c.up (ex_new (o := .lst [x, x, x, x]) n)).put (p := p) upd_same
  refine cat1 c (by simp only [List.length_cons, List.length_nil, List.length_append]; omega) (fun p H c => ?_)
  walk_at "go"
  refine fld1 (C := T.C 11) (f := "index") (T.ek (i := 11) (by decide)) T.n_BadFeatures_index c (fun H c => ?_)
  walk_at "go"
  refine fld1 (C := T.C 13) (f := "number") (T.ek (i := 13) (by decide)) T.n_Off_number c (fun H c => ?_)
  walk_at "go"
  refine fld1 (C := T.C 14) (f := "name") (T.ek (i := 14) (by decide)) T.n_BadName_name c (fun H c => ?_)
  walk_at "go"
  refine fld1 (C := T.C 16) (f := "name") (T.ek (i := 16) (by decide)) T.n_Unkept_name c (fun H c => ?_)
  walk_at "go"
  intro p n
  have c := (c.up (ex_new (o := .lst [x, x, x, x]) n)).put (p := p) upd_same
  refine cat1 c (by simp only [List.length_cons, List.length_nil, List.length_append]; omega) (fun p H c => ?_)
  walk_at "go"
  refine fld1 (C := T.C 20) (f := "name") (T.ek (i := 20) (by decide)) T.n_Missing_name c (fun H c => ?_)
  walk_at "go"
  refine fld1 (C := T.C 21) (f := "name") (T.ek (i := 21) (by decide)) T.n_NoScale_name c (fun H c => ?_)
  walk_at "go"
  refine fld1 (C := T.C 22) (f := "name") (T.ek (i := 22) (by decide)) T.n_NoWorking_name c (fun H c => ?_)
  walk_at "go"
  intro p n
  have c := (c.up (ex_new (o := .lst [x, x, x]) n)).put (p := p) upd_same
  refine cat1 c (by simp only [List.length_cons, List.length_nil, List.length_append]; omega) (fun p H c => ?_)
  walk_at "go"
  refine fld2 (C := T.C 7) (f := "number") (g := "word") (T.ek (i := 7) (by decide)) T.n_Misfit_number (by rfl) c (fun H c => ?_)
  walk_at "go"
  refine fld2 (C := T.C 7) (f := "number") (g := "word") (T.ek (i := 7) (by decide)) T.n_Misfit_word (by rfl) c (fun H c => ?_)
  walk_at "go"
  intro p n
  have c := (c.up (ex_new (o := .lst [x, x]) n)).put (p := p) upd_same
  refine cat1H c (by simp only [List.length_cons, List.length_nil, List.length_append]; omega) (fun p H hp c => ?_)
  walk_at "go"
  exact q p H c.ex hp c.hd
end
end K5
namespace K5
open PySem PySem.Spec PyProof.Rows L2 Qj
local macro_rules | `(tactic| walk_at "go") => `(tactic| repeat (first
  | (refine ⟨_, rfl, ?_⟩)
  | (refine ⟨_, _, rfl, rfl, ?_⟩)
  | (refine ⟨_, _, rfl, ?_⟩)
  | (refine ⟨_, _, _, _, rfl, rfl, SqL.of (by assumption), rfl, ?_⟩)
  | (refine ⟨_, _, _, _, rfl, rfl, SqL.of upd_same, rfl, ?_⟩)
  | (refine ⟨_, _, _, _, rfl, rfl, SqT.of (by assumption), rfl, ?_⟩)
  | (refine ⟨_, _, _, _, rfl, rfl, SqT.of upd_same, rfl, ?_⟩)
  | (refine ⟨_, _, _, _, rfl, rfl, (by assumption), rfl, ?_⟩)
  | (refine ⟨_, _, _, _, rfl, rfl, upd_same, rfl, ?_⟩)
  | (refine ⟨_, _, rfl, Or.inl (by assumption), ?_⟩)
  | (refine ⟨_, _, rfl, Or.inr (SqT.of (by assumption)), ?_⟩)
  | (refine ⟨_, _, rfl, Or.inr (SqT.of upd_same), ?_⟩)
  | (refine ⟨_, _, rfl, Or.inl (SqL.of (by assumption)), ?_⟩)
  | (refine ⟨_, _, rfl, SqT.of (by assumption), rfl, ?_⟩)
  | (refine ⟨_, _, rfl, Kn.int _, ?_⟩)
  | (refine ⟨_, _, rfl, (by assumption : Kn _ _ _), ?_⟩)
  | (refine iteNS rfl ?_)
  | (refine iteF ?_)
  | (refine iteT ?_)
  | (refine Or.inl ⟨_, rfl, ?_⟩)
  | (refine Or.inr ⟨_, rfl, ?_⟩)
  | (refine And.intro sz4 ?_)
  | (refine And.intro (by first | exact rfl | assumption | decide | (show (0 : Int) < _; decide) | exact wide_div (b := 63) (by assumption) (by omega) (by decide) (by decide) | exact wide_div (b := 63) (by decide) (by decide) (by decide) (by decide) | exact Or.inl ⟨by decide, by decide⟩ | exact Or.inr ⟨by decide, by decide⟩ | exact ⟨by decide, by decide, by decide⟩ | exact Or.inl ⟨by omega, by omega⟩ | exact Or.inr ⟨by omega, by omega⟩) ?_)))

/-- an error of the class at C stands at a -/
def EO (H : Hp) (a C : Addr) : Prop := ∃ d, H a = some (exo a C d) ∧ ∀ dx, d = some dx → ∃ fs, H dx = some (exd dx fs)
theorem EO.ex {H H' : Hp} {a C : Addr} (h : EO H a C) (e : Evl.Ex H H') : EO H' a C := by
  obtain ⟨d, ea, ed⟩ := h
  refine ⟨d, e _ _ ea, fun dx z => ?_⟩
  obtain ⟨fs, q⟩ := ed dx z
  exact ⟨fs, e _ _ q⟩
def flags (i : Nat) : List V := [.bl (kb i 0), .bl (kb i 1), .bl (kb i 2), .bl (kb i 3), .bl (kb i 4), .bl (kb i 5), .bl (kb i 6), .bl (kb i 7), .bl (kb i 8), .bl (kb i 9), .bl (kb i 10), .bl (kb i 11), .bl (kb i 12), .bl (kb i 13), .bl (kb i 14), .bl (kb i 15), .bl (kb i 16), .bl (kb i 17), .bl (kb i 18), .bl (kb i 19), .bl (kb i 20), .bl (kb i 21), .bl (kb i 22)]
section
variable {P : Program} {w : World} {K : PySem.W.Frag} {mg : Str → Option Value} {base : Heap}
def spKinds (T : Txt K mg) : Sp := fun vs H Q _ => ∃ (a : Addr) (i : Nat), vs = [.ref a] ∧ i < 23 ∧ EO H a (T.C i) ∧ ∀ p H', Evl.Ex H H' → H' p = some (.lst (flags i)) → Q (.ref p) H'
theorem isC (T : Txt K mg) {i j : Nat} (hi : i < 24) (hj : j < 24) {H0 H1 : Hp} {ls : List (Addr × HO)} {a : Addr} {Q : VK} (eo : EO H0 a (T.C i)) (c : Cy H0 ls H1) (q : Q (.bl (kb i j)) H1) : rIsE K [.ref a, .ref (T.C j)] H1 Q := by
  obtain ⟨d, ea, ed⟩ := eo.ex c.ex
  exact ⟨a, T.C i, d, _, _, _, rfl, .own _, T.ek hi, ea, ed, T.kit hi hj, q⟩
theorem isVE (T : Txt K mg) {i : Nat} (hi : i < 24) {H0 H1 : Hp} {ls : List (Addr × HO)} {a : Addr} {Q : VK} (eo : EO H0 a (T.C i)) (c : Cy H0 ls H1) (q : Q (.bl (decide (i < 20) || decide (i = 23))) H1) : rIsE K [.ref a, .ty "ValueError"] H1 Q := by
  obtain ⟨d, ea, ed⟩ := eo.ex c.ex
  exact ⟨a, T.C i, d, _, _, _, rfl, .ty _, T.ek hi, ea, ed, T.kitV hi, q⟩
theorem isLE (T : Txt K mg) {i : Nat} (hi : i < 24) {H0 H1 : Hp} {ls : List (Addr × HO)} {a : Addr} {Q : VK} (eo : EO H0 a (T.C i)) (c : Cy H0 ls H1) (q : Q (.bl (!decide (i < 20) && !decide (i = 23))) H1) : rIsE K [.ref a, .ty "LookupError"] H1 Q := by
  obtain ⟨d, ea, ed⟩ := eo.ex c.ex
  exact ⟨a, T.C i, d, _, _, _, rfl, .ty _, T.ek hi, ea, ed, T.kitL hi, q⟩
theorem cat1N {H0 H1 : Hp} {Q : VK} {ls : List (Addr × HO)} {xs zs : List V} {l b : Addr} (E : Cy H0 ((b, .lst zs) :: (l, .lst xs) :: ls) H1) (hz : xs.length + zs.length ≤ 1000) (h : ∀ p H2, H0 p = none → Cy H0 ((p, .lst (xs ++ zs)) :: ls) H2 → Q (.ref p) H2) : rCat (.ref l) (.ref b) H1 Q :=
  ⟨l, b, xs, zs, rfl, rfl, E.tl.hd, E.hd, by have := sizeLine_eq; omega, fun p n => h p _ (Evl.fresh_back E.ex n) ((E.tl.tl.up (ex_new n)).put upd_same)⟩
theorem ok__law_kinds (T : Txt K mg) : FnOk P w K mg base CX0 1 T._law_kinds.f T._law_kinds.fd ["_law_error"] (spKinds T) := by
  refine T._law_kinds.F.ok sc__law_kinds (fun vs H Q E h => ?_) (fun cdv A outer s H vs Q E hr h => ?_)
  · obtain ⟨a, i, rfl, _⟩ := h
    rfl
  obtain ⟨a, i, rfl, hi, eo, q⟩ := h
  have hi : i < 24 := by omega
  have nd := sc__law_kinds.nd
  refine ⟨_, (pss_cons (ps_set (i := 1) nd rfl (.inl rfl) (pe_lst (pa_cons (pe_callB (cr_isE T.oc1 T.oc2) (by rfl) T.m_isinstance (by decide +kernel) (pa_cons (pv 0) (pa_cons (pe_glob (v := .ref (T.C 0)) (by rfl) T.NoFraction.g rfl) pa_nil))) (pa_cons (pe_callB (cr_isE T.oc1 T.oc2) (by rfl) T.m_isinstance (by decide +kernel) (pa_cons (pv 0) (pa_cons (pe_glob (v := .ref (T.C 1)) (by rfl) T.BadForm.g rfl) pa_nil))) (pa_cons (pe_callB (cr_isE T.oc1 T.oc2) (by rfl) T.m_isinstance (by decide +kernel) (pa_cons (pv 0) (pa_cons (pe_glob (v := .ref (T.C 2)) (by rfl) T.BadRule.g rfl) pa_nil))) pa_nil)))))
      (pss_cons (ps_set (i := 1) nd rfl (.inl rfl) (pe_op op_cat (pv 1) (pe_lst (pa_cons (pe_callB (cr_isE T.oc1 T.oc2) (by rfl) T.m_isinstance (by decide +kernel) (pa_cons (pv 0) (pa_cons (pe_glob (v := .ref (T.C 3)) (by rfl) T.NoStretch.g rfl) pa_nil))) (pa_cons (pe_callB (cr_isE T.oc1 T.oc2) (by rfl) T.m_isinstance (by decide +kernel) (pa_cons (pv 0) (pa_cons (pe_glob (v := .ref (T.C 4)) (by rfl) T.NoMantissa.g rfl) pa_nil))) (pa_cons (pe_callB (cr_isE T.oc1 T.oc2) (by rfl) T.m_isinstance (by decide +kernel) (pa_cons (pv 0) (pa_cons (pe_glob (v := .ref (T.C 5)) (by rfl) T.NoPosition.g rfl) pa_nil))) pa_nil))))))
      (pss_cons (ps_set (i := 1) nd rfl (.inl rfl) (pe_op op_cat (pv 1) (pe_lst (pa_cons (pe_callB (cr_isE T.oc1 T.oc2) (by rfl) T.m_isinstance (by decide +kernel) (pa_cons (pv 0) (pa_cons (pe_glob (v := .ref (T.C 6)) (by rfl) T.BadWorking.g rfl) pa_nil))) (pa_cons (pe_callB (cr_isE T.oc1 T.oc2) (by rfl) T.m_isinstance (by decide +kernel) (pa_cons (pv 0) (pa_cons (pe_glob (v := .ref (T.C 7)) (by rfl) T.Misfit.g rfl) pa_nil))) (pa_cons (pe_callB (cr_isE T.oc1 T.oc2) (by rfl) T.m_isinstance (by decide +kernel) (pa_cons (pv 0) (pa_cons (pe_glob (v := .ref (T.C 8)) (by rfl) T.BadText.g rfl) pa_nil))) pa_nil))))))
      (pss_cons (ps_set (i := 1) nd rfl (.inl rfl) (pe_op op_cat (pv 1) (pe_lst (pa_cons (pe_callB (cr_isE T.oc1 T.oc2) (by rfl) T.m_isinstance (by decide +kernel) (pa_cons (pv 0) (pa_cons (pe_glob (v := .ref (T.C 9)) (by rfl) T.TooMany.g rfl) pa_nil))) (pa_cons (pe_callB (cr_isE T.oc1 T.oc2) (by rfl) T.m_isinstance (by decide +kernel) (pa_cons (pv 0) (pa_cons (pe_glob (v := .ref (T.C 10)) (by rfl) T.BadWish.g rfl) pa_nil))) pa_nil)))))
      (pss_cons (ps_set (i := 1) nd rfl (.inl rfl) (pe_op op_cat (pv 1) (pe_lst (pa_cons (pe_callB (cr_isE T.oc1 T.oc2) (by rfl) T.m_isinstance (by decide +kernel) (pa_cons (pv 0) (pa_cons (pe_glob (v := .ref (T.C 11)) (by rfl) T.BadFeatures.g rfl) pa_nil))) (pa_cons (pe_callB (cr_isE T.oc1 T.oc2) (by rfl) T.m_isinstance (by decide +kernel) (pa_cons (pv 0) (pa_cons (pe_glob (v := .ref (T.C 12)) (by rfl) T.BadBook.g rfl) pa_nil))) (pa_cons (pe_callB (cr_isE T.oc1 T.oc2) (by rfl) T.m_isinstance (by decide +kernel) (pa_cons (pv 0) (pa_cons (pe_glob (v := .ref (T.C 13)) (by rfl) T.Off.g rfl) pa_nil))) pa_nil))))))
      (pss_cons (ps_set (i := 1) nd rfl (.inl rfl) (pe_op op_cat (pv 1) (pe_lst (pa_cons (pe_callB (cr_isE T.oc1 T.oc2) (by rfl) T.m_isinstance (by decide +kernel) (pa_cons (pv 0) (pa_cons (pe_glob (v := .ref (T.C 14)) (by rfl) T.BadName.g rfl) pa_nil))) (pa_cons (pe_callB (cr_isE T.oc1 T.oc2) (by rfl) T.m_isinstance (by decide +kernel) (pa_cons (pv 0) (pa_cons (pe_glob (v := .ref (T.C 15)) (by rfl) T.NotRule.g rfl) pa_nil))) (pa_cons (pe_callB (cr_isE T.oc1 T.oc2) (by rfl) T.m_isinstance (by decide +kernel) (pa_cons (pv 0) (pa_cons (pe_glob (v := .ref (T.C 16)) (by rfl) T.Unkept.g rfl) pa_nil))) pa_nil))))))
      (pss_cons (ps_set (i := 1) nd rfl (.inl rfl) (pe_op op_cat (pv 1) (pe_lst (pa_cons (pe_callB (cr_isE T.oc1 T.oc2) (by rfl) T.m_isinstance (by decide +kernel) (pa_cons (pv 0) (pa_cons (pe_glob (v := .ref (T.C 17)) (by rfl) T.Full.g rfl) pa_nil))) (pa_cons (pe_callB (cr_isE T.oc1 T.oc2) (by rfl) T.m_isinstance (by decide +kernel) (pa_cons (pv 0) (pa_cons (pe_glob (v := .ref (T.C 18)) (by rfl) T.Busy.g rfl) pa_nil))) (pa_cons (pe_callB (cr_isE T.oc1 T.oc2) (by rfl) T.m_isinstance (by decide +kernel) (pa_cons (pv 0) (pa_cons (pe_glob (v := .ref (T.C 19)) (by rfl) T.NothingToUndo.g rfl) pa_nil))) pa_nil))))))
      (pss_cons (ps_expr (pe_bm PySem.F.plainAttrs_list PySem.F.slot_list_append PySem.F.type_list_append mt_append (pv 1) (pa_cons (pe_callB (cr_isE T.oc1 T.oc2) (by rfl) T.m_isinstance (by decide +kernel) (pa_cons (pv 0) (pa_cons (pe_glob (v := .ref (T.C 20)) (by rfl) T.Missing.g rfl) pa_nil))) pa_nil)))
      (pss_one (ps_ret (pe_op op_cat (pv 1) (pe_lst (pa_cons (pe_callB (cr_isE T.oc1 T.oc2) (by rfl) T.m_isinstance (by decide +kernel) (pa_cons (pv 0) (pa_cons (pe_glob (v := .ref (T.C 21)) (by rfl) T.NoScale.g rfl) pa_nil))) (pa_cons (pe_callB (cr_isE T.oc1 T.oc2) (by rfl) T.m_isinstance (by decide +kernel) (pa_cons (pv 0) (pa_cons (pe_glob (v := .ref (T.C 22)) (by rfl) T.NoWorking.g rfl) pa_nil))) pa_nil)))))))))))))), ?_⟩
  have c := Cy.refl H
  obtain ⟨d, ea, ed⟩ := eo.ex c.ex
  walk_at "go"
  refine ⟨a, T.C i, _, _, _, _, rfl, .own _, T.ek hi, ea, ed, T.kit hi (j := 0) (by decide), ?_⟩
  walk_at "go"
  refine ⟨a, T.C i, _, _, _, _, rfl, .own _, T.ek hi, ea, ed, T.kit hi (j := 1) (by decide), ?_⟩
  walk_at "go"
  refine ⟨a, T.C i, _, _, _, _, rfl, .own _, T.ek hi, ea, ed, T.kit hi (j := 2) (by decide), ?_⟩
  walk_at "go"
  intro p n
  have c := (c.up (ex_new (o := .lst [V.bl (kb i 0), V.bl (kb i 1), V.bl (kb i 2)]) n)).put (p := p) upd_same
  obtain ⟨d, ea, ed⟩ := eo.ex c.ex
  walk_at "go"
  refine ⟨a, T.C i, _, _, _, _, rfl, .own _, T.ek hi, ea, ed, T.kit hi (j := 3) (by decide), ?_⟩
  walk_at "go"
  refine ⟨a, T.C i, _, _, _, _, rfl, .own _, T.ek hi, ea, ed, T.kit hi (j := 4) (by decide), ?_⟩
  walk_at "go"
  refine ⟨a, T.C i, _, _, _, _, rfl, .own _, T.ek hi, ea, ed, T.kit hi (j := 5) (by decide), ?_⟩
  walk_at "go"
  intro p n
  have c := (c.up (ex_new (o := .lst [V.bl (kb i 3), V.bl (kb i 4), V.bl (kb i 5)]) n)).put (p := p) upd_same
  refine cat1 c (by simp only [List.length_cons, List.length_nil, List.length_append]; omega) (fun p H c => ?_)
  obtain ⟨d, ea, ed⟩ := eo.ex c.ex
  walk_at "go"
  refine ⟨a, T.C i, _, _, _, _, rfl, .own _, T.ek hi, ea, ed, T.kit hi (j := 6) (by decide), ?_⟩
  walk_at "go"
  refine ⟨a, T.C i, _, _, _, _, rfl, .own _, T.ek hi, ea, ed, T.kit hi (j := 7) (by decide), ?_⟩
  walk_at "go"
  refine ⟨a, T.C i, _, _, _, _, rfl, .own _, T.ek hi, ea, ed, T.kit hi (j := 8) (by decide), ?_⟩
  walk_at "go"
  intro p n
  have c := (c.up (ex_new (o := .lst [V.bl (kb i 6), V.bl (kb i 7), V.bl (kb i 8)]) n)).put (p := p) upd_same
  refine cat1 c (by simp only [List.length_cons, List.length_nil, List.length_append]; omega) (fun p H c => ?_)
  obtain ⟨d, ea, ed⟩ := eo.ex c.ex
  walk_at "go"
  refine ⟨a, T.C i, _, _, _, _, rfl, .own _, T.ek hi, ea, ed, T.kit hi (j := 9) (by decide), ?_⟩
  walk_at "go"
  refine ⟨a, T.C i, _, _, _, _, rfl, .own _, T.ek hi, ea, ed, T.kit hi (j := 10) (by decide), ?_⟩
  walk_at "go"
  intro p n
  have c := (c.up (ex_new (o := .lst [V.bl (kb i 9), V.bl (kb i 10)]) n)).put (p := p) upd_same
  refine cat1 c (by simp only [List.length_cons, List.length_nil, List.length_append]; omega) (fun p H c => ?_)
  obtain ⟨d, ea, ed⟩ := eo.ex c.ex
  walk_at "go"
  refine ⟨a, T.C i, _, _, _, _, rfl, .own _, T.ek hi, ea, ed, T.kit hi (j := 11) (by decide), ?_⟩
  walk_at "go"
  refine ⟨a, T.C i, _, _, _, _, rfl, .own _, T.ek hi, ea, ed, T.kit hi (j := 12) (by decide), ?_⟩
  walk_at "go"
  refine ⟨a, T.C i, _, _, _, _, rfl, .own _, T.ek hi, ea, ed, T.kit hi (j := 13) (by decide), ?_⟩
  walk_at "go"
  intro p n
  have c := (c.up (ex_new (o := .lst [V.bl (kb i 11), V.bl (kb i 12), V.bl (kb i 13)]) n)).put (p := p) upd_same
  refine cat1 c (by simp only [List.length_cons, List.length_nil, List.length_append]; omega) (fun p H c => ?_)
  obtain ⟨d, ea, ed⟩ := eo.ex c.ex
  walk_at "go"
  refine ⟨a, T.C i, _, _, _, _, rfl, .own _, T.ek hi, ea, ed, T.kit hi (j := 14) (by decide), ?_⟩
  walk_at "go"
  refine ⟨a, T.C i, _, _, _, _, rfl, .own _, T.ek hi, ea, ed, T.kit hi (j := 15) (by decide), ?_⟩
  walk_at "go"
  refine ⟨a, T.C i, _, _, _, _, rfl, .own _, T.ek hi, ea, ed, T.kit hi (j := 16) (by decide), ?_⟩
  walk_at "go"
  intro p n
  have c := (c.up (ex_new (o := .lst [V.bl (kb i 14), V.bl (kb i 15), V.bl (kb i 16)]) n)).put (p := p) upd_same
  refine cat1 c (by simp only [List.length_cons, List.length_nil, List.length_append]; omega) (fun p H c => ?_)
  obtain ⟨d, ea, ed⟩ := eo.ex c.ex
  walk_at "go"
  refine ⟨a, T.C i, _, _, _, _, rfl, .own _, T.ek hi, ea, ed, T.kit hi (j := 17) (by decide), ?_⟩
  walk_at "go"
  refine ⟨a, T.C i, _, _, _, _, rfl, .own _, T.ek hi, ea, ed, T.kit hi (j := 18) (by decide), ?_⟩
  walk_at "go"
  refine ⟨a, T.C i, _, _, _, _, rfl, .own _, T.ek hi, ea, ed, T.kit hi (j := 19) (by decide), ?_⟩
  walk_at "go"
  intro p n
  have c := (c.up (ex_new (o := .lst [V.bl (kb i 17), V.bl (kb i 18), V.bl (kb i 19)]) n)).put (p := p) upd_same
  refine cat1N c (by simp only [List.length_cons, List.length_nil, List.length_append]; omega) (fun p H n0 c => ?_)
  obtain ⟨d, ea, ed⟩ := eo.ex c.ex
  walk_at "go"
  refine ⟨.inl ⟨rfl, _, SqL.of c.hd⟩, ?_⟩
  walk_at "go"
  refine ⟨a, T.C i, _, _, _, _, rfl, .own _, T.ek hi, ea, ed, T.kit hi (j := 20) (by decide), ?_⟩
  walk_at "go"
  refine ⟨p, _, _, rfl, rfl, c.hd, (by simp only [List.length_cons, List.length_nil, List.length_append]; have := sizeLine_eq; omega), ?_⟩
  have c : Cy _ [(p, .lst (List.take 21 (flags i)))] (upd H p (.lst (List.take 21 (flags i)))) := Cy.put (ls := []) ⟨c.ex.mut (o := .lst (List.take 21 (flags i))) n0, fun _ h => nomatch h⟩ upd_same
  obtain ⟨d, ea, ed⟩ := eo.ex c.ex
  walk_at "go"
  refine ⟨a, T.C i, _, _, _, _, rfl, .own _, T.ek hi, ea, ed, T.kit hi (j := 21) (by decide), ?_⟩
  walk_at "go"
  refine ⟨a, T.C i, _, _, _, _, rfl, .own _, T.ek hi, ea, ed, T.kit hi (j := 22) (by decide), ?_⟩
  walk_at "go"
  intro p2 n
  have c := (c.up (ex_new (o := .lst [V.bl (kb i 21), V.bl (kb i 22)]) n)).put (p := p2) upd_same
  refine cat1 c (by show 21 + 2 ≤ 1000; omega) (fun p H c => ?_)
  walk_at "go"
  exact q p H c.ex c.hd
end
end K5
namespace K5
open PySem PySem.Spec PyProof.Rows L2 Qj
local macro_rules | `(tactic| walk_at "go") => `(tactic| repeat (first
  | (refine ⟨_, rfl, ?_⟩)
  | (refine ⟨_, _, rfl, rfl, ?_⟩)
  | (refine ⟨_, _, rfl, ?_⟩)
  | (refine ⟨_, _, _, _, rfl, rfl, SqL.of (by assumption), rfl, ?_⟩)
  | (refine ⟨_, _, _, _, rfl, rfl, SqL.of upd_same, rfl, ?_⟩)
  | (refine ⟨_, _, _, _, rfl, rfl, SqT.of (by assumption), rfl, ?_⟩)
  | (refine ⟨_, _, _, _, rfl, rfl, SqT.of upd_same, rfl, ?_⟩)
  | (refine ⟨_, _, _, _, rfl, rfl, (by assumption), rfl, ?_⟩)
  | (refine ⟨_, _, _, _, rfl, rfl, upd_same, rfl, ?_⟩)
  | (refine ⟨_, _, rfl, Or.inl (by assumption), ?_⟩)
  | (refine ⟨_, _, rfl, Or.inr (SqT.of (by assumption)), ?_⟩)
  | (refine ⟨_, _, rfl, Or.inr (SqT.of upd_same), ?_⟩)
  | (refine ⟨_, _, rfl, Or.inl (SqL.of (by assumption)), ?_⟩)
  | (refine ⟨_, _, rfl, SqT.of (by assumption), rfl, ?_⟩)
  | (refine ⟨_, _, rfl, Kn.int _, ?_⟩)
  | (refine ⟨_, _, rfl, (by assumption : Kn _ _ _), ?_⟩)
  | (refine iteNS rfl ?_)
  | (refine iteF ?_)
  | (refine iteT ?_)
  | (refine Or.inl ⟨_, rfl, ?_⟩)
  | (refine Or.inr ⟨_, rfl, ?_⟩)
  | (refine And.intro sz4 ?_)
  | (refine And.intro (by first | exact rfl | assumption | decide | (show (0 : Int) < _; decide) | exact wide_div (b := 63) (by assumption) (by omega) (by decide) (by decide) | exact wide_div (b := 63) (by decide) (by decide) (by decide) (by decide) | exact Or.inl ⟨by decide, by decide⟩ | exact Or.inr ⟨by decide, by decide⟩ | exact ⟨by decide, by decide, by decide⟩ | exact Or.inl ⟨by omega, by omega⟩ | exact Or.inr ⟨by omega, by omega⟩) ?_)))

/-- which of 23 -/
def L23 (i : Nat) : List Bool := (List.range 23).map fun j => decide (i = j)
theorem flags_L : ∀ i, i < 23 → flags i = (L23 i).map V.bl
  | 0, _ => rfl
  | 1, _ => rfl
  | 2, _ => rfl
  | 3, _ => rfl
  | 4, _ => rfl
  | 5, _ => rfl
  | 6, _ => rfl
  | 7, _ => rfl
  | 8, _ => rfl
  | 9, _ => rfl
  | 10, _ => rfl
  | 11, _ => rfl
  | 12, _ => rfl
  | 13, _ => rfl
  | 14, _ => rfl
  | 15, _ => rfl
  | 16, _ => rfl
  | 17, _ => rfl
  | 18, _ => rfl
  | 19, _ => rfl
  | 20, _ => rfl
  | 21, _ => rfl
  | 22, _ => rfl
  | n + 23, h => absurd h (by omega)
theorem L_same : ∀ i : Fin 23, SeqAt.shaped (.list ((L23 i.val).map PyData.bool)) = true ∧ PyData.eqv (.list ((L23 i.val).map PyData.bool)) (.list ((L23 i.val).map PyData.bool)) = true := by decide +kernel
theorem three_same : ∀ b c e : Bool, SeqAt.shaped (.list [.bool b, .bool c, .bool e]) = true ∧ PyData.eqv (.list [.bool b, .bool c, .bool e]) (.list [.bool b, .bool c, .bool e]) = true := by decide +kernel
theorem three_eq {b c e b2 c2 e2 : Bool} (h1 : b = b2) (h2 : c = c2) (h3 : e = e2) : PyData.eqv (.list [.bool b, .bool c, .bool e]) (.list [.bool b2, .bool c2, .bool e2]) = true := by
  subst h1 h2 h3
  exact (three_same b c e).2
theorem dp3 {K : PySem.W.Frag} {H : Hp} {p : Addr} {b c e : Bool} (h : H p = some (.lst [.bl b, .bl c, .bl e])) : Dp K H (.ref p) (.list [.bool b, .bool c, .bool e]) := Dp.lst (SqL.of h) (.cons (.bl _) (.cons (.bl _) (.cons (.bl _) .nil)))
theorem dp_bls {K : PySem.W.Frag} {H : Hp} : ∀ bs : List Bool, DpAll K H (bs.map V.bl) (bs.map PyData.bool)
  | [] => .nil
  | b :: bs => .cons (.bl b) (dp_bls bs)
section
variable {P : Program} {w : World} {K : PySem.W.Frag} {mg : Str → Option Value} {base : Heap}
def spFam (T : Txt K mg) : Sp := fun vs H Q _ => ∃ (l : Addr) (as : List Addr), vs = [.ref l] ∧ as.length = 23 ∧ H l = some (.lst (as.map V.ref)) ∧ (∀ i a, as[i]? = some a → EO H a (T.C i)) ∧ ∀ H', Q (.bl true) H'
theorem ok__law_families (T : Txt K mg) : FnOk P w K mg base CX0 2 T._law_families.f T._law_families.fd ["_law_errors"] (spFam T) := by
  refine T._law_families.F.ok sc__law_families (fun vs H Q E h => ?_) (fun cdv A outer s H vs Q E hr h => ?_)
  · obtain ⟨l, as, rfl, _⟩ := h
    rfl
  obtain ⟨l, as, rfl, hlen, hl, eo, q⟩ := h
  have nd := sc__law_families.nd
  have e23 : (as.map V.ref).length = 23 := by rw [List.length_map]; exact hlen
  refine ⟨_, (pss_cons (ps_for PassesOwn.never rfl (pi_range1 rfl T.m_range (pa_cons (pe_callB call_len_seq (by rfl) T.m_len (by decide +kernel) (pa_cons (pv 0) pa_nil)) pa_nil)) (pg_name (i := 1) nd rfl (.inr rfl))
        (pss_cons (ps_set (i := 2) nd rfl (.inl rfl) (pe_ix ix_list (pv 0) (pv 1) (fun _ _ => rfl)))
        (pss_cons (ps_if (pt_cmpR (op_neD hr.units) (pe_call (ok__law_kinds T) (hr.mono (by decide)) (by rfl) T._law_kinds.g T._law_kinds.F.kp T._law_kinds.b .nil pass0 (pa_cons (pv 2) pa_nil)) (pe_lc (own := [("_law_j", 5)]) (g := gName 5) (tt := tYes) rfl nd (pi_range1 rfl T.m_range (pa_cons (pe_callB call_len_seq (by rfl) T.m_len (by decide +kernel) (pa_cons (pv 0) pa_nil)) pa_nil)) (blkOk_by (N := ["_law_errors", "_law_k", "_law_error", "_law_slid", "_law_told", "_law_j"]) (sc := defScope s__law_families) (by decide +kernel)) (fun _ _ _ _ _ => pg_name (i := 5) nd rfl (Or.inl rfl)) (fun _ _ _ _ _ => pts_nil) (fun _ _ _ _ _ => (pe_cmpR op_eq (pv 5) (pv 1) (nomark _)))) (nomark _))
          (pss_one (ps_ret pe_bl))
          pss_nil)
        (pss_cons (ps_set (i := 3) nd rfl (.inl rfl) (pe_cmpR op_lt (pv 1) pe_int (nomark _)))
        (pss_cons (ps_set (i := 4) nd rfl (.inl rfl) (pe_lst (pa_cons (pe_callB (cr_isE T.oc1 T.oc2) (by rfl) T.m_isinstance (by decide +kernel) (pa_cons (pv 2) (pa_cons (pe_glob (v := .ref (T.C 23)) (by rfl) T.SlideError.g rfl) pa_nil))) (pa_cons (pe_callB (cr_isE T.oc1 T.oc2) (by rfl) T.m_isinstance (by decide +kernel) (pa_cons (pv 2) (pa_cons (pe_bltn (v := .ty "ValueError") (by rfl) T.m_ValueError (by decide +kernel) rfl) pa_nil))) (pa_cons (pe_callB (cr_isE T.oc1 T.oc2) (by rfl) T.m_isinstance (by decide +kernel) (pa_cons (pv 2) (pa_cons (pe_bltn (v := .ty "LookupError") (by rfl) T.m_LookupError (by decide +kernel) rfl) pa_nil))) pa_nil)))))
        (pss_one (ps_if (pt_cmpR (op_neD hr.units) (pv 4) (pe_lst (pa_cons (pv 3) (pa_cons (pv 3) (pa_cons (pe_not (pv 3)) pa_nil)))) (nomark _))
          (pss_one (ps_ret pe_bl))
          pss_nil)))))))
      (pss_one (ps_ret pe_bl))), ?_⟩
  walk_at "go"
  rw [e23]
  refine ⟨by decide, by decide, ?_⟩
  refine for_range (n := 23) (fun i σ H' => ∃ x1 x2 x3 x4 x5, σ = [some (.ref l), x1, x2, x3, x4, x5] ∧ Evl.Ex H H') ⟨_, _, _, _, _, rfl, Evl.Ex.refl H⟩ ?_ ?_
  · rintro i σ H1 hi ⟨x1, x2, x3, x4, x5, rfl, ex1⟩
    have hl1 := ex1 _ _ hl
    have ha : ∃ a, as[i]? = some a := ⟨as[i]'(by omega), by rw [List.getElem?_eq_getElem]⟩
    obtain ⟨a, ha⟩ := ha
    have hv : atI (as.map V.ref) (0 + (i : Int)) = some (.ref a) := by
      rw [Int.zero_add]
      exact atI_nat (by rw [List.getElem?_map, ha]; rfl)
    walk_at "go"
    refine ⟨_, _, _, _, rfl, rfl, SqL.of hl1, hv, ?_⟩
    walk_at "go"
    refine ⟨a, i, rfl, hi, (eo i a ha).ex ex1, fun p H2 ex2 hp => ?_⟩
    have hl2 := ex2 _ _ hl1
    walk_at "go"
    rw [e23]
    refine ⟨by decide, by decide, fun D nD => ?_⟩
    refine lc_range (lo := 0) (n := 23) (fun j H' => H' D = some (.lst ((List.take j (L23 i)).map V.bl)) ∧ Evl.Ex H2 H') ⟨upd_same, ex_new nD⟩ ?_ ?_
    · rintro j H3 hj ⟨hD, ex3⟩
      walk_at "go"
      have ev : decide (V.int (0 + (j : Int)) = V.int (0 + (i : Int))) = decide (i = j) :=
        decide_eq_decide.mpr ⟨fun z => by have := V.int.inj z; omega, fun z => by rw [z]⟩
      have hx : (L23 i)[j]? = some (decide (i = j)) := by
        unfold L23
        rw [List.getElem?_map, List.getElem?_range hj]
        rfl
      refine ⟨_, hD, ?_, ?_, ex3.mut nD⟩
      · rw [List.length_map, List.length_take, sizeLine_eq]
        omega
      · rw [upd_same, ev, List.take_succ, hx, List.map_append]
        rfl
    · rintro H3 ⟨hD, ex3⟩
      have hp3 := ex3 _ _ hp
      walk_at "go"
      have full : List.take 23 (L23 i) = L23 i := List.take_of_length_le (by unfold L23; rw [List.length_map, List.length_range]; exact Nat.le_refl _)
      rw [full] at hD
      rw [flags_L i hi] at hp3
      refine ⟨_, _, Dp.lst (SqL.of hp3) (dp_bls _), Dp.lst (SqL.of hD) (dp_bls _), (L_same ⟨i, hi⟩).1, (L_same ⟨i, hi⟩).1, ?_⟩
      refine ⟨_, rfl, ?_⟩
      rw [(L_same ⟨i, hi⟩).2]
      walk_at "go"
      obtain ⟨d, ea, ed⟩ := (eo i a ha).ex ((ex1.trans ex2).trans ex3)
      have hi2 : i < 24 := by omega
      have n23 : decide (i = 23) = false := decide_eq_false (by omega)
      refine ⟨a, T.C i, _, _, _, _, rfl, .own _, T.ek hi2, ea, ed, T.kit hi2 (j := 23) (by decide), ?_⟩
      walk_at "go"
      refine ⟨a, T.C i, _, _, _, _, rfl, .ty _, T.ek hi2, ea, ed, T.kitV hi2, ?_⟩
      walk_at "go"
      refine ⟨a, T.C i, _, _, _, _, rfl, .ty _, T.ek hi2, ea, ed, T.kitL hi2, ?_⟩
      walk_at "go"
      intro p4 n4
      walk_at "go"
      intro p5 n5
      have e4 := ex_new (o := .lst [V.bl (decide (0 + (i : Int) < 20)), V.bl (decide (0 + (i : Int) < 20)), V.bl (!decide (0 + (i : Int) < 20))]) n5 _ _ upd_same
      have sl : decide (0 + (i : Int) < 20) = decide (i < 20) := decide_eq_decide.mpr ⟨fun z => by omega, fun z => by omega⟩
      refine ⟨_, _, dp3 e4, dp3 upd_same, (three_same _ _ _).1, (three_same _ _ _).1, ?_⟩
      refine ⟨_, rfl, ?_⟩
      rw [three_eq (by unfold kb; rw [sl, n23, Bool.false_or, decide_eq_true rfl, Bool.true_and]) (by rw [sl, n23, Bool.or_false]) (by rw [sl, n23, Bool.not_false, Bool.and_true])]
      walk_at "go"
      exact ⟨_, _, _, _, _, rfl, ((ex1.trans ex2).trans ex3).trans ((ex_new n4).trans (ex_new n5))⟩
  · rintro σ H1 ⟨x1, x2, x3, x4, x5, rfl, ex1⟩
    walk_at "go"
    exact q _
end
end K5
namespace K5
open PySem PySem.Spec PyProof.Rows L2 Qj
local macro_rules | `(tactic| walk_at "go") => `(tactic| repeat (first
  | (refine ⟨_, rfl, ?_⟩)
  | (refine ⟨_, _, rfl, rfl, ?_⟩)
  | (refine ⟨_, _, rfl, ?_⟩)
  | (refine ⟨_, _, _, _, rfl, rfl, SqL.of (by assumption), rfl, ?_⟩)
  | (refine ⟨_, _, _, _, rfl, rfl, SqL.of upd_same, rfl, ?_⟩)
  | (refine ⟨_, _, _, _, rfl, rfl, SqT.of (by assumption), rfl, ?_⟩)
  | (refine ⟨_, _, _, _, rfl, rfl, SqT.of upd_same, rfl, ?_⟩)
  | (refine ⟨_, _, _, _, rfl, rfl, (by assumption), rfl, ?_⟩)
  | (refine ⟨_, _, _, _, rfl, rfl, upd_same, rfl, ?_⟩)
  | (refine ⟨_, _, rfl, Or.inl (by assumption), ?_⟩)
  | (refine ⟨_, _, rfl, Or.inr (SqT.of (by assumption)), ?_⟩)
  | (refine ⟨_, _, rfl, Or.inr (SqT.of upd_same), ?_⟩)
  | (refine ⟨_, _, rfl, Or.inl (SqL.of (by assumption)), ?_⟩)
  | (refine ⟨_, _, rfl, SqT.of (by assumption), rfl, ?_⟩)
  | (refine ⟨_, _, rfl, Kn.int _, ?_⟩)
  | (refine ⟨_, _, rfl, (by assumption : Kn _ _ _), ?_⟩)
  | (refine iteNS rfl ?_)
  | (refine iteF ?_)
  | (refine iteT ?_)
  | (refine Or.inl ⟨_, rfl, ?_⟩)
  | (refine Or.inr ⟨_, rfl, ?_⟩)
  | (refine And.intro sz4 ?_)
  | (refine And.intro (by first | exact rfl | assumption | decide | (show (0 : Int) < _; decide) | exact wide_div (b := 63) (by assumption) (by omega) (by decide) (by decide) | exact wide_div (b := 63) (by decide) (by decide) (by decide) (by decide) | exact Or.inl ⟨by decide, by decide⟩ | exact Or.inr ⟨by decide, by decide⟩ | exact ⟨by decide, by decide, by decide⟩ | exact Or.inl ⟨by omega, by omega⟩ | exact Or.inr ⟨by omega, by omega⟩) ?_)))

def spLaw (K : PySem.W.Frag) : Sp := fun vs H Q _ => ∃ (a : Addr) (ns : List Int), vs = [.ref a] ∧ SqL K H a (ns.map V.int) ∧ ns.length ≤ 63 ∧ ∀ H', Q (.bl true) H'
theorem text_ne (i j : Int) : (PyData.list [.int i, .int j]).shown ≠ (PyData.list [.int i]).shown := fun z => by
  have e := congrArg Str.length z
  simp only [PyData.shown, PyData.shownAll, listText, textFrom, strLen_append] at e
  rw [if_neg (by decide), if_pos (by decide)] at e
  have l2 : (Str.ofString ", ").length = 2 := by decide
  rw [l2] at e
  omega
theorem Vd.isl {K : PySem.W.Frag} {H : Hp} {v : V} {d : PyData} (h : Vd H v d) (n : nt d) : ∃ (t : Value) (b : Bool), TyX K H v t ∧ PySem.W.kitOne K t (.type "list") = some b ∧
    (b = true → ∃ a i, v = .ref a ∧ d = .list [.int i] ∧ i.natAbs < 2 ^ 30 ∧ H a = some (.lst [.int i])) := by
  have no : ∀ {p : Prop}, false = true → p := fun z => nomatch z
  cases h with
  | non => exact ⟨_, false, .base .non, kit_ty (by decide +kernel), no⟩
  | tru => exact ⟨_, false, .base (.bl _), kit_ty (by decide +kernel), no⟩
  | int i h => exact ⟨_, false, .base (.int _), kit_ty (by decide +kernel), no⟩
  | num i h => exact ⟨_, false, .base (.str _), kit_ty (by decide +kernel), no⟩
  | emp => exact ⟨_, false, .base (.str _), kit_ty (by decide +kernel), no⟩
  | tup hi hj e => exact ⟨_, false, .base (.tup e), kit_ty (by decide +kernel), no⟩
  | nil e => exact ⟨_, false, .base (.tup e), kit_ty (by decide +kernel), no⟩
  | lst h e => exact ⟨_, true, .base (.lst e), kit_ty (by decide +kernel), fun _ => ⟨_, _, rfl, rfl, h, e⟩⟩
  | two h hj e => exact False.elim n
  | dic hx h e => exact ⟨_, false, .base (.dK e), kit_ty (by decide +kernel), no⟩
/-- errors of the first classes, one behind another -/
structure Ay {K : PySem.W.Frag} {mg : Str → Option Value} (T : Txt K mg) (H0 : Hp) (as : List Addr) (m : Nat) (H : Hp) : Prop where
  ex : Evl.Ex H0 H
  len : as.length = m
  eo : ∀ k a, as[k]? = some a → EO H a (T.C k)
section
variable {K : PySem.W.Frag} {mg : Str → Option Value} {T : Txt K mg} {H0 H H' : Hp} {as bs : List Addr} {a dx : Addr} {fs : List (Str × V)} {o : HO} {m : Nat}
theorem Ay.up (c : Ay T H0 as m H) (e : Evl.Ex H H') : Ay T H0 as m H' := ⟨c.ex.trans e, c.len, fun k a h => (c.eo k a h).ex e⟩
theorem Ay.re (c : Ay T H0 as m H) : Ay T H as m H := ⟨Evl.Ex.refl _, c.len, c.eo⟩
theorem Ay.cast (c : Ay T H0 as m H) (h : as = bs) : Ay T H0 bs m H := h ▸ c
theorem Ay.put (c : Ay T H0 as m H) (e : EO H a (T.C m)) (k : Nat) (hk : m + 1 = k) : Ay T H0 (as ++ [a]) k H := ⟨c.ex, by rw [List.length_append, c.len]; exact hk, fun j b h => by
  have hl := c.len
  by_cases hj : j < as.length
  · rw [List.getElem?_append_left hj] at h
    exact c.eo j b h
  · rw [List.getElem?_append_right (by omega)] at h
    by_cases h0 : j - as.length = 0
    · rw [h0] at h
      obtain rfl : a = b := Option.some.inj h
      obtain rfl : j = m := by omega
      exact e
    · rw [List.getElem?_eq_none (by simp only [List.length_cons, List.length_nil]; omega)] at h
      cases h⟩
theorem Ay.p0 (c : Ay T H0 as m H) (n : H a = none) (k : Nat) (hk : m + 1 = k) : Ay T H0 (as ++ [a]) k (upd H a (exo a (T.C m) none)) :=
  (c.up (ex_new n)).put ⟨none, upd_same, fun dx z => by cases z⟩ k hk
theorem Ay.p1 (c : Ay T H0 as m H) (n : H a = none) (e : Evl.Ex (del (upd H a o) a) H') (h1 : H' a = some (exo a (T.C m) (some dx))) (h2 : H' dx = some (exd dx fs)) (k : Nat) (hk : m + 1 = k) : Ay T H0 (as ++ [a]) k H' :=
  (c.up (ex_del n e)).put ⟨some dx, h1, fun d z => by cases z; exact ⟨fs, h2⟩⟩ k hk
theorem catA {l b : Addr} {xs zs ys : List V} {Q : VK} (c : Ay T H0 as m H) (L : H0 l = some (.lst xs)) (B : H b = some (.lst zs)) (hz : xs.length + zs.length ≤ 1000) (hy : xs ++ zs = ys) (h : ∀ p H2, Ay T H2 as m H2 → H2 p = some (.lst ys) → Q (.ref p) H2) : rCat (.ref l) (.ref b) H Q :=
  ⟨l, b, xs, zs, rfl, rfl, c.ex _ _ L, B, by have := sizeLine_eq; omega, fun p n => h p _ ((c.up (ex_new n)).re) (by rw [hy]; exact upd_same)⟩
end
section
variable {P : Program} {w : World} {K : PySem.W.Frag} {mg : Str → Option Value} {base : Heap}
theorem ok_law (T : Txt K mg) : FnG P w K mg base CX0 6 T.law.f T.law.fd ["_law_script"] (spLaw K) := by
  refine okG T.law.F sc_law (fun vs H Q E h => ?_) (fun cdv A outer s H vs Q E hr gd h => ?_)
  · obtain ⟨a, ns, rfl, _⟩ := h
    rfl
  obtain ⟨a, ns, rfl, hS, hlen, q⟩ := h
  have nd := sc_law.nd
  refine ⟨_, PSs.nox (pss_cons (ps_set (i := 1) nd rfl (.inl rfl) (pe_call (ok__law_deck T) (hr.mono (by decide)) (by rfl) T._law_deck.g T._law_deck.F.kp T._law_deck.b .nil pass0 (pa_cons (pv 0) pa_nil)))
      (pss_cons (ps_par (i := 2) (j := 3) rfl nd rfl rfl (by decide) rfl rfl (pa_cons (pe_call (ok__law_value T) (hr.mono (by decide)) (by rfl) T._law_value.g T._law_value.F.kp T._law_value.b .nil pass0 (pa_cons (pv 1) pa_nil)) (pa_cons (pe_call (ok__law_value T) (hr.mono (by decide)) (by rfl) T._law_value.g T._law_value.F.kp T._law_value.b .nil pass0 (pa_cons (pv 1) pa_nil)) pa_nil)) (by rfl))
      (pss_cons (ps_set (i := 4) nd rfl (.inl rfl) (pe_callB (cr_repV K (by exact gd) (by exact hr.units)) (by rfl) T.m_repr (by decide +kernel) (pa_cons (pv 2) pa_nil)))
      (pss_cons (ps_if (pt_cmpR op_ne (pe_callB (cr_repL K (by exact gd) (by exact hr.units)) (by rfl) T.m_repr (by decide +kernel) (pa_cons (pe_call (ok__law_fields T) (hr.mono (by decide)) (by rfl) T._law_fields.g T._law_fields.F.kp T._law_fields.b .nil pass0 (pa_cons (pv 2) (pa_cons (pv 3) pa_nil))) pa_nil)) (pe_callB (cr_repL K (by exact gd) (by exact hr.units)) (by rfl) T.m_repr (by decide +kernel) (pa_cons (pe_op op_repH (pe_lst (pa_cons (pv 2) pa_nil)) pe_int) pa_nil)) (nomark _))
        (pss_one (ps_ret pe_bl))
        pss_nil)
      (Evl.pss_cut (ps_if (pt_val (pe_callB call_isi (by rfl) T.m_isinstance (by decide +kernel) (pa_cons (pv 2) (pa_cons (pe_bltn (v := .ty "list") (by rfl) T.m_list (by decide +kernel) rfl) pa_nil))))
        (pss_cons (ps_set (i := 5) nd rfl (.inl rfl) (pe_mkE (C := T.C 8) (T.ek (i := 8) (by decide)) T.i_BadText.i T.i_BadText.t (ok_i_BadText T) (hr.mono (by decide)) T.i_BadText.b (by rfl) T.BadText.g T.BadText.e.kp (pa_cons (pv 2) pa_nil)))
        (pss_cons (ps_expr (pe_bm PySem.F.plainAttrs_list PySem.F.slot_list_append PySem.F.type_list_append mt_append (pv 2) (pa_cons pe_int pa_nil)))
        (pss_one (ps_if (PW.pt (pw_or (pt_cmpR op_ne (pe_callB (cr_repV K (by exact gd) (by exact hr.units)) (by rfl) T.m_repr (by decide +kernel) (pa_cons (pe_eat (pv 5)) pa_nil)) (pe_callB (cr_repV K (by exact gd) (by exact hr.units)) (by rfl) T.m_repr (by decide +kernel) (pa_cons (pv 2) pa_nil)) (nomark _)) (pw_or1 (pt_cmpR op_eq (pe_callB (cr_repV K (by exact gd) (by exact hr.units)) (by rfl) T.m_repr (by decide +kernel) (pa_cons (pv 2) pa_nil)) (pv 4) (nomark _)))))
          (pss_one (ps_ret pe_bl))
          pss_nil))))
        pss_nil)
      (pss_cons (ps_set (i := 6) nd rfl (.inl rfl) (pe_lst (pa_cons (pe_mk0 (C := T.C 0) PySem.F.excBase_ValueError T.x_NoFraction T.NoFraction.g T.NoFraction.e.kp (by rfl)) (pa_cons (pe_mk0 (C := T.C 1) PySem.F.excBase_ValueError T.x_BadForm T.BadForm.g T.BadForm.e.kp (by rfl)) (pa_cons (pe_mkE (C := T.C 2) (T.ek (i := 2) (by decide)) T.i_BadRule.i T.i_BadRule.t (ok_i_BadRule T) (hr.mono (by decide)) T.i_BadRule.b (by rfl) T.BadRule.g T.BadRule.e.kp (pa_cons (pv 2) pa_nil)) (pa_cons (pe_mkE (C := T.C 3) (T.ek (i := 3) (by decide)) T.i_NoStretch.i T.i_NoStretch.t (ok_i_NoStretch T) (hr.mono (by decide)) T.i_NoStretch.b (by rfl) T.NoStretch.g T.NoStretch.e.kp (pa_cons (pv 2) pa_nil)) (pa_cons (pe_mkE (C := T.C 4) (T.ek (i := 4) (by decide)) T.i_NoMantissa.i T.i_NoMantissa.t (ok_i_NoMantissa T) (hr.mono (by decide)) T.i_NoMantissa.b (by rfl) T.NoMantissa.g T.NoMantissa.e.kp (pa_cons (pv 2) pa_nil)) (pa_cons (pe_mkE (C := T.C 5) (T.ek (i := 5) (by decide)) T.i_NoPosition.i T.i_NoPosition.t (ok_i_NoPosition T) (hr.mono (by decide)) T.i_NoPosition.b (by rfl) T.NoPosition.g T.NoPosition.e.kp (pa_cons (pv 2) pa_nil)) (pa_cons (pe_mkE (C := T.C 6) (T.ek (i := 6) (by decide)) T.i_BadWorking.i T.i_BadWorking.t (ok_i_BadWorking T) (hr.mono (by decide)) T.i_BadWorking.b (by rfl) T.BadWorking.g T.BadWorking.e.kp (pa_cons (pv 2) pa_nil)) pa_nil)))))))))
      (pss_cons (ps_set (i := 6) nd rfl (.inl rfl) (pe_op op_cat (pv 6) (pe_lst (pa_cons (pe_mkE (C := T.C 7) (T.ek (i := 7) (by decide)) T.i_Misfit.i T.i_Misfit.t (ok_i_Misfit T) (hr.mono (by decide)) T.i_Misfit.b (by rfl) T.Misfit.g T.Misfit.e.kp (pa_cons (pv 2) (pa_cons (pv 3) pa_nil))) (pa_cons (pe_mkE (C := T.C 8) (T.ek (i := 8) (by decide)) T.i_BadText.i T.i_BadText.t (ok_i_BadText T) (hr.mono (by decide)) T.i_BadText.b (by rfl) T.BadText.g T.BadText.e.kp (pa_cons (pv 2) pa_nil)) (pa_cons (pe_mkE (C := T.C 9) (T.ek (i := 9) (by decide)) T.i_TooMany.i T.i_TooMany.t (ok_i_TooMany T) (hr.mono (by decide)) T.i_TooMany.b (by rfl) T.TooMany.g T.TooMany.e.kp (pa_cons (pv 2) pa_nil)) (pa_cons (pe_mkE (C := T.C 10) (T.ek (i := 10) (by decide)) T.i_BadWish.i T.i_BadWish.t (ok_i_BadWish T) (hr.mono (by decide)) T.i_BadWish.b (by rfl) T.BadWish.g T.BadWish.e.kp (pa_cons (pv 2) pa_nil)) (pa_cons (pe_mkE (C := T.C 11) (T.ek (i := 11) (by decide)) T.i_BadFeatures.i T.i_BadFeatures.t (ok_i_BadFeatures T) (hr.mono (by decide)) T.i_BadFeatures.b (by rfl) T.BadFeatures.g T.BadFeatures.e.kp (pa_cons (pv 2) pa_nil)) pa_nil))))))))
      (pss_cons (ps_set (i := 6) nd rfl (.inl rfl) (pe_op op_cat (pv 6) (pe_lst (pa_cons (pe_mk0 (C := T.C 12) PySem.F.excBase_ValueError T.x_BadBook T.BadBook.g T.BadBook.e.kp (by rfl)) (pa_cons (pe_mkE (C := T.C 13) (T.ek (i := 13) (by decide)) T.i_Off.i T.i_Off.t (ok_i_Off T) (hr.mono (by decide)) T.i_Off.b (by rfl) T.Off.g T.Off.e.kp (pa_cons (pv 2) pa_nil)) (pa_cons (pe_mkE (C := T.C 14) (T.ek (i := 14) (by decide)) T.i_BadName.i T.i_BadName.t (ok_i_BadName T) (hr.mono (by decide)) T.i_BadName.b (by rfl) T.BadName.g T.BadName.e.kp (pa_cons (pv 2) pa_nil)) (pa_cons (pe_mk0 (C := T.C 15) PySem.F.excBase_ValueError T.x_NotRule T.NotRule.g T.NotRule.e.kp (by rfl)) (pa_cons (pe_mkE (C := T.C 16) (T.ek (i := 16) (by decide)) T.i_Unkept.i T.i_Unkept.t (ok_i_Unkept T) (hr.mono (by decide)) T.i_Unkept.b (by rfl) T.Unkept.g T.Unkept.e.kp (pa_cons (pv 2) pa_nil)) (pa_cons (pe_mk0 (C := T.C 17) PySem.F.excBase_ValueError T.x_Full T.Full.g T.Full.e.kp (by rfl)) (pa_cons (pe_mk0 (C := T.C 18) PySem.F.excBase_ValueError T.x_Busy T.Busy.g T.Busy.e.kp (by rfl)) pa_nil))))))))))
      (pss_cons (ps_set (i := 6) nd rfl (.inl rfl) (pe_op op_cat (pv 6) (pe_lst (pa_cons (pe_mk0 (C := T.C 19) PySem.F.excBase_ValueError T.x_NothingToUndo T.NothingToUndo.g T.NothingToUndo.e.kp (by rfl)) (pa_cons (pe_mkE (C := T.C 20) (T.ek (i := 20) (by decide)) T.i_Missing.i T.i_Missing.t (ok_i_Missing T) (hr.mono (by decide)) T.i_Missing.b (by rfl) T.Missing.g T.Missing.e.kp (pa_cons (pv 2) pa_nil)) (pa_cons (pe_mkE (C := T.C 21) (T.ek (i := 21) (by decide)) T.i_NoScale.i T.i_NoScale.t (ok_i_NoScale T) (hr.mono (by decide)) T.i_NoScale.b (by rfl) T.NoScale.g T.NoScale.e.kp (pa_cons (pv 2) pa_nil)) (pa_cons (pe_mkE (C := T.C 22) (T.ek (i := 22) (by decide)) T.i_NoWorking.i T.i_NoWorking.t (ok_i_NoWorking T) (hr.mono (by decide)) T.i_NoWorking.b (by rfl) T.NoWorking.g T.NoWorking.e.kp (pa_cons (pv 2) pa_nil)) pa_nil)))))))
      (pss_cons (ps_if (PW.pt (pw_or (pt_not (pt_val (pe_call (ok__law_families T) (hr.mono (by decide)) (by rfl) T._law_families.g T._law_families.F.kp T._law_families.b .nil pass0 (pa_cons (pv 6) pa_nil)))) (pw_or (pt_val (pe_callB (cr_isE T.oc1 T.oc2) (by rfl) T.m_isinstance (by decide +kernel) (pa_cons (pe_mk0 (C := T.C 23) PySem.F.excBase_ValueError T.x_SlideError T.SlideError.g T.SlideError.e.kp (by rfl)) (pa_cons (pe_bltn (v := .ty "LookupError") (by rfl) T.m_LookupError (by decide +kernel) rfl) pa_nil)))) (pw_or1 (pt_not (pt_val (pe_callB (cr_isE T.oc1 T.oc2) (by rfl) T.m_isinstance (by decide +kernel) (pa_cons (pe_mk0 (C := T.C 23) PySem.F.excBase_ValueError T.x_SlideError T.SlideError.g T.SlideError.e.kp (by rfl)) (pa_cons (pe_bltn (v := .ty "ValueError") (by rfl) T.m_ValueError (by decide +kernel) rfl) pa_nil)))))))))
        (pss_one (ps_ret pe_bl))
        pss_nil)
      (pss_cons (ps_set (i := 7) nd rfl (.inl rfl) (pe_lst (pa_cons (pe_glob (v := .int 3) (by rfl) T.c_MAX_TURNS ⟨_, rfl⟩) (pa_cons (pe_glob (v := .int 6) (by rfl) T.c_MAX_SCALES ⟨_, rfl⟩) (pa_cons (pe_glob (v := .int 10) (by rfl) T.c_MAX_STEPS ⟨_, rfl⟩) (pa_cons (pe_glob (v := .int 2) (by rfl) T.c_MAX_DEPTH ⟨_, rfl⟩) (pa_cons (pe_glob (v := .int 3) (by rfl) T.c_MAX_OPERANDS ⟨_, rfl⟩) (pa_cons (pe_glob (v := .int 3) (by rfl) T.c_MAX_FACTOR ⟨_, rfl⟩) (pa_cons (pe_glob (v := .int 6) (by rfl) T.c_MAX_FEATURES ⟨_, rfl⟩) (pa_cons (pe_glob (v := .int 30) (by rfl) T.c_MAX_DEEDS ⟨_, rfl⟩) pa_nil))))))))))
      (pss_one (ps_ret (pe_cmpR op_eq (pe_callB (cr_reprK K (by exact rfl) (by exact gd) (by exact hr.units)) (by rfl) T.m_repr (by decide +kernel) (pa_cons (pv 7) pa_nil)) (pe_callB (cr_reprK K (by exact rfl) (by exact gd) (by exact hr.units)) (by rfl) T.m_repr (by decide +kernel) (pa_cons (pe_lst (pa_cons pe_int (pa_cons pe_int (pa_cons pe_int (pa_cons pe_int (pa_cons pe_int (pa_cons pe_int (pa_cons pe_int (pa_cons pe_int pa_nil))))))))) pa_nil)) (nomark _))))))))))))))), ?_⟩
  walk_at "go"
  refine ⟨a, ns, rfl, hS, hlen, fun D H1 nD e1 d1 => ?_⟩
  walk_at "go"
  intro v1 x1 H2 bu2 d2 vd1 nt1
  walk_at "go"
  intro v2 x2 H3 bu3 d3 vd2 nt2
  have vd1 := Vd.bu d2 bu3 vd1
  walk_at "go"
  refine ⟨v1, x1, rfl, vd1, ?_⟩
  walk_at "go"
  intro p H4 e4 hp h4
  walk_at "go"
  refine ⟨p, 17, v1, x1, rfl, h4, hp, by decide, vd1.ex e4, ?_⟩
  walk_at "go"
  intro p5 n5
  walk_at "go"
  refine ⟨p5, 17, v1, rfl, rfl, upd_same, by decide, by decide, fun p6 n6 hp6 => ?_⟩
  walk_at "go"
  refine ⟨p6, 17, v1, x1, rfl, upd_same, hp6, by decide, vd1.ex (e4.trans ((ex_new n5).trans (ex_new n6))), ?_⟩
  walk_at "go"
  have vd6 := vd1.ex (e4.trans ((ex_new (o := .lst [v1]) n5).trans (ex_new (o := .lst (List.replicate (Int.toNat 17) v1)) n6)))
  refine ⟨fun σ' H' => ∃ x5, σ' = [some (.ref a), some (.ref D), some v1, some v2, some (.str x1.shown), x5, none, none], ?_, ?_⟩
  · obtain ⟨t, b, ty, kt, hb⟩ := Vd.isl (K := K) vd6 nt1
    walk_at "go"
    refine ⟨v1, .ty "list", t, _, b, rfl, .ty _, ty, kt, ?_⟩
    walk_at "go"
    refine ite2 (fun h => ?_) (fun h => ?_)
    · obtain ⟨la, i, e1, e2, hi, hla⟩ := hb h
      subst e1 e2
      walk_at "go"
      refine ⟨by show 1 ≤ 1000; omega, fun ea na => ⟨ea, V.ref la, rfl, upd_same, fun dx H7 ed h1 h2 => ⟨rfl, ?_⟩⟩⟩
      have ex7 := ex_del na ed
      have l7 := ex7 _ _ hla
      have ne1 : ea ≠ la := fun z => by rw [z, l7] at h1; cases h1
      have ne2 : dx ≠ la := fun z => by rw [z, l7] at h2; cases h2
      walk_at "go"
      refine ⟨.inl ⟨rfl, _, SqL.of l7⟩, ?_⟩
      walk_at "go"
      refine ⟨la, _, _, rfl, rfl, l7, (by have := sizeLine_eq; show 1 < sizeLine; omega), ?_⟩
      walk_at "go"
      have eat1 : upd H7 la (.lst [V.int i, V.int 7]) ea = some (exo ea (T.C 8) (some dx)) := by rw [upd_ne ne1]; exact h1
      have eat2 : upd H7 la (.lst [V.int i, V.int 7]) dx = some (exd dx [("place", V.ref la)]) := by rw [upd_ne ne2]; exact h2
      refine ⟨ea, T.C 8, dx, _, V.ref la, rfl, T.ek (i := 8) (by decide), T.n_BadText_place, eat1, eat2, by rfl, ?_⟩
      walk_at "go"
      refine ⟨V.ref la, .list [.int i, .int 7], rfl, .two hi (by decide) upd_same, ?_⟩
      walk_at "go"
      refine ⟨V.ref la, .list [.int i, .int 7], rfl, .two hi (by decide) upd_same, ?_⟩
      refine ⟨rfl, ?_⟩
      walk_at "go"
      refine ⟨V.ref la, .list [.int i, .int 7], rfl, .two hi (by decide) upd_same, ?_⟩
      walk_at "go"
      refine ite2 (fun h => absurd (V.str.inj (of_decide_eq_true h)) (text_ne i 7)) (fun h => ?_)
      walk_at "go"
      exact ⟨_, rfl⟩
    · exact ⟨_, rfl⟩
  · rintro σ7 H7 ⟨x5, rfl⟩
    have c : Ay T H7 [] 0 H7 := ⟨Evl.Ex.refl _, rfl, fun k a h => by cases h⟩
    walk_at "go"
    intro a0 n
    have c := c.p0 n 1 rfl
    walk_at "go"
    intro a1 n
    have c := c.p0 n 2 rfl
    walk_at "go"
    refine ⟨by show 1 ≤ 1000; omega, fun a2 n => ⟨a2, _, rfl, upd_same, fun dx H ed h1 h2 => ⟨rfl, ?_⟩⟩⟩
    have c := c.p1 n ed h1 h2 3 rfl
    walk_at "go"
    refine ⟨by show 1 ≤ 1000; omega, fun a3 n => ⟨a3, _, rfl, upd_same, fun dx H ed h1 h2 => ⟨rfl, ?_⟩⟩⟩
    have c := c.p1 n ed h1 h2 4 rfl
    walk_at "go"
    refine ⟨by show 1 ≤ 1000; omega, fun a4 n => ⟨a4, _, rfl, upd_same, fun dx H ed h1 h2 => ⟨rfl, ?_⟩⟩⟩
    have c := c.p1 n ed h1 h2 5 rfl
    walk_at "go"
    refine ⟨by show 1 ≤ 1000; omega, fun a5 n => ⟨a5, _, rfl, upd_same, fun dx H ed h1 h2 => ⟨rfl, ?_⟩⟩⟩
    have c := c.p1 n ed h1 h2 6 rfl
    walk_at "go"
    refine ⟨by show 1 ≤ 1000; omega, fun a6 n => ⟨a6, _, rfl, upd_same, fun dx H ed h1 h2 => ⟨rfl, ?_⟩⟩⟩
    have c := c.p1 n ed h1 h2 7 rfl
    walk_at "go"
    intro p n
    have c := ((c.cast (bs := [a0, a1, a2, a3, a4, a5, a6]) (by simp only [List.nil_append, List.cons_append])).up (ex_new (o := .lst [V.ref a0, V.ref a1, V.ref a2, V.ref a3, V.ref a4, V.ref a5, V.ref a6]) n)).re
    have L : (upd _ p (.lst [V.ref a0, V.ref a1, V.ref a2, V.ref a3, V.ref a4, V.ref a5, V.ref a6])) p = some (.lst [V.ref a0, V.ref a1, V.ref a2, V.ref a3, V.ref a4, V.ref a5, V.ref a6]) := upd_same (H := H)
    walk_at "go"
    refine ⟨by show 2 ≤ 1000; omega, fun a7 n => ⟨a7, _, _, rfl, upd_same, fun dx H ed h1 h2 => ⟨rfl, ?_⟩⟩⟩
    have c := c.p1 n ed h1 h2 8 rfl
    walk_at "go"
    refine ⟨by show 1 ≤ 1000; omega, fun a8 n => ⟨a8, _, rfl, upd_same, fun dx H ed h1 h2 => ⟨rfl, ?_⟩⟩⟩
    have c := c.p1 n ed h1 h2 9 rfl
    walk_at "go"
    refine ⟨by show 1 ≤ 1000; omega, fun a9 n => ⟨a9, _, rfl, upd_same, fun dx H ed h1 h2 => ⟨rfl, ?_⟩⟩⟩
    have c := c.p1 n ed h1 h2 10 rfl
    walk_at "go"
    refine ⟨by show 1 ≤ 1000; omega, fun a10 n => ⟨a10, _, rfl, upd_same, fun dx H ed h1 h2 => ⟨rfl, ?_⟩⟩⟩
    have c := c.p1 n ed h1 h2 11 rfl
    walk_at "go"
    refine ⟨by show 1 ≤ 1000; omega, fun a11 n => ⟨a11, _, rfl, upd_same, fun dx H ed h1 h2 => ⟨rfl, ?_⟩⟩⟩
    have c := c.p1 n ed h1 h2 12 rfl
    walk_at "go"
    intro p n
    have c := c.up (ex_new (o := .lst [V.ref a7, V.ref a8, V.ref a9, V.ref a10, V.ref a11]) n)
    refine catA (ys := [V.ref a0, V.ref a1, V.ref a2, V.ref a3, V.ref a4, V.ref a5, V.ref a6, V.ref a7, V.ref a8, V.ref a9, V.ref a10, V.ref a11]) (c.cast (bs := [a0, a1, a2, a3, a4, a5, a6, a7, a8, a9, a10, a11]) (by simp only [List.nil_append, List.cons_append])) L upd_same (by simp only [List.length_cons, List.length_nil]; omega) rfl (fun p H c L => ?_)
    walk_at "go"
    intro a12 n
    have c := c.p0 n 13 rfl
    walk_at "go"
    refine ⟨by show 1 ≤ 1000; omega, fun a13 n => ⟨a13, _, rfl, upd_same, fun dx H ed h1 h2 => ⟨rfl, ?_⟩⟩⟩
    have c := c.p1 n ed h1 h2 14 rfl
    walk_at "go"
    refine ⟨by show 1 ≤ 1000; omega, fun a14 n => ⟨a14, _, rfl, upd_same, fun dx H ed h1 h2 => ⟨rfl, ?_⟩⟩⟩
    have c := c.p1 n ed h1 h2 15 rfl
    walk_at "go"
    intro a15 n
    have c := c.p0 n 16 rfl
    walk_at "go"
    refine ⟨by show 1 ≤ 1000; omega, fun a16 n => ⟨a16, _, rfl, upd_same, fun dx H ed h1 h2 => ⟨rfl, ?_⟩⟩⟩
    have c := c.p1 n ed h1 h2 17 rfl
    walk_at "go"
    intro a17 n
    have c := c.p0 n 18 rfl
    walk_at "go"
    intro a18 n
    have c := c.p0 n 19 rfl
    walk_at "go"
    intro p n
    have c := c.up (ex_new (o := .lst [V.ref a12, V.ref a13, V.ref a14, V.ref a15, V.ref a16, V.ref a17, V.ref a18]) n)
    refine catA (ys := [V.ref a0, V.ref a1, V.ref a2, V.ref a3, V.ref a4, V.ref a5, V.ref a6, V.ref a7, V.ref a8, V.ref a9, V.ref a10, V.ref a11, V.ref a12, V.ref a13, V.ref a14, V.ref a15, V.ref a16, V.ref a17, V.ref a18]) (c.cast (bs := [a0, a1, a2, a3, a4, a5, a6, a7, a8, a9, a10, a11, a12, a13, a14, a15, a16, a17, a18]) (by simp only [List.nil_append, List.cons_append])) L upd_same (by simp only [List.length_cons, List.length_nil]; omega) rfl (fun p H c L => ?_)
    walk_at "go"
    intro a19 n
    have c := c.p0 n 20 rfl
    walk_at "go"
    refine ⟨by show 1 ≤ 1000; omega, fun a20 n => ⟨a20, _, rfl, upd_same, fun dx H ed h1 h2 => ⟨rfl, ?_⟩⟩⟩
    have c := c.p1 n ed h1 h2 21 rfl
    walk_at "go"
    refine ⟨by show 1 ≤ 1000; omega, fun a21 n => ⟨a21, _, rfl, upd_same, fun dx H ed h1 h2 => ⟨rfl, ?_⟩⟩⟩
    have c := c.p1 n ed h1 h2 22 rfl
    walk_at "go"
    refine ⟨by show 1 ≤ 1000; omega, fun a22 n => ⟨a22, _, rfl, upd_same, fun dx H ed h1 h2 => ⟨rfl, ?_⟩⟩⟩
    have c := c.p1 n ed h1 h2 23 rfl
    walk_at "go"
    intro p n
    have c := c.up (ex_new (o := .lst [V.ref a19, V.ref a20, V.ref a21, V.ref a22]) n)
    refine catA (ys := [V.ref a0, V.ref a1, V.ref a2, V.ref a3, V.ref a4, V.ref a5, V.ref a6, V.ref a7, V.ref a8, V.ref a9, V.ref a10, V.ref a11, V.ref a12, V.ref a13, V.ref a14, V.ref a15, V.ref a16, V.ref a17, V.ref a18, V.ref a19, V.ref a20, V.ref a21, V.ref a22]) (c.cast (bs := [a0, a1, a2, a3, a4, a5, a6, a7, a8, a9, a10, a11, a12, a13, a14, a15, a16, a17, a18, a19, a20, a21, a22]) (by simp only [List.nil_append, List.cons_append])) L upd_same (by simp only [List.length_cons, List.length_nil]; omega) rfl (fun p H c L => ?_)
    walk_at "go"
    refine ⟨p, [a0, a1, a2, a3, a4, a5, a6, a7, a8, a9, a10, a11, a12, a13, a14, a15, a16, a17, a18, a19, a20, a21, a22], rfl, rfl, L, c.eo, fun H9 => ?_⟩
    walk_at "go"
    refine fun b1 n1 => ?_
    walk_at "go"
    refine ⟨b1, T.C 23, none, _, _, _, rfl, .ty _, T.ek (i := 23) (by decide), upd_same, (fun dx z => by cases z), T.kitL (i := 23) (by decide), ?_⟩
    walk_at "go"
    refine fun b2 n2 => ?_
    walk_at "go"
    refine ⟨b2, T.C 23, none, _, _, _, rfl, .ty _, T.ek (i := 23) (by decide), upd_same, (fun dx z => by cases z), T.kitV (i := 23) (by decide), ?_⟩
    walk_at "go"
    intro p7 n7
    walk_at "go"
    have okL := okd_lst (oka_cons (okd_int (i := 3) (k := 30) (by decide) (by decide) (by decide)) (oka_cons (okd_int (i := 6) (k := 30) (by decide) (by decide) (by decide)) (oka_cons (okd_int (i := 10) (k := 30) (by decide) (by decide) (by decide)) (oka_cons (okd_int (i := 2) (k := 30) (by decide) (by decide) (by decide)) (oka_cons (okd_int (i := 3) (k := 30) (by decide) (by decide) (by decide)) (oka_cons (okd_int (i := 3) (k := 30) (by decide) (by decide) (by decide)) (oka_cons (okd_int (i := 6) (k := 30) (by decide) (by decide) (by decide)) (oka_cons (okd_int (i := 30) (k := 30) (by decide) (by decide) (by decide)) oka_nil))))))))
    refine ⟨_, _, _, _, rfl, Dp.lst (SqL.of upd_same) (.cons (.int _) (.cons (.int _) (.cons (.int _) (.cons (.int _) (.cons (.int _) (.cons (.int _) (.cons (.int _) (.cons (.int _) .nil)))))))), okL, by decide, by decide, ?_⟩
    walk_at "go"
    intro p8 n8
    walk_at "go"
    refine ⟨_, _, _, _, rfl, Dp.lst (SqL.of upd_same) (.cons (.int _) (.cons (.int _) (.cons (.int _) (.cons (.int _) (.cons (.int _) (.cons (.int _) (.cons (.int _) (.cons (.int _) .nil)))))))), okL, by decide, by decide, ?_⟩
    walk_at "go"
    rw [decide_eq_true rfl]
    exact q _
end
end K5
namespace K5
open PySem PySem.Spec PyProof.Rows L2 Qj
def mkTxt {K : PySem.W.Frag} {h : Heap} {mg : Str → Option Value} (X : K.In h) (G : h.Ns mainGlobals mg)
    {f__law_deck : Addr} {oc__law_deck kV__law_deck dc__law_deck pm__law_deck cd__law_deck ct__law_deck : Value} {od__law_deck an__law_deck : Option Addr} {sl__law_deck : Array (Option Value)}
    (a__law_deck : PySem.W.nsIn K mainGlobals "_law_deck" = some (some (.ref f__law_deck))) (l__law_deck : K.lookup f__law_deck = some ⟨oc__law_deck, od__law_deck, .func (PySem.W.fnOf "_law_deck" "_law_deck" (defArgs s__law_deck) (defBody s__law_deck) (defScope s__law_deck) .none kV__law_deck dc__law_deck pm__law_deck an__law_deck cd__law_deck ct__law_deck), sl__law_deck⟩) (c__law_deck : PySem.W.codeIn K cd__law_deck "_law_deck" = true) (k__law_deck : PySem.W.keepIn K (.ref f__law_deck) = true)
    {f__law_take : Addr} {oc__law_take kV__law_take dc__law_take pm__law_take cd__law_take ct__law_take : Value} {od__law_take an__law_take : Option Addr} {sl__law_take : Array (Option Value)}
    (a__law_take : PySem.W.nsIn K mainGlobals "_law_take" = some (some (.ref f__law_take))) (l__law_take : K.lookup f__law_take = some ⟨oc__law_take, od__law_take, .func (PySem.W.fnOf "_law_take" "_law_take" (defArgs s__law_take) (defBody s__law_take) (defScope s__law_take) .none kV__law_take dc__law_take pm__law_take an__law_take cd__law_take ct__law_take), sl__law_take⟩) (c__law_take : PySem.W.codeIn K cd__law_take "_law_take" = true) (k__law_take : PySem.W.keepIn K (.ref f__law_take) = true)
    {f__law_value : Addr} {oc__law_value kV__law_value dc__law_value pm__law_value cd__law_value ct__law_value : Value} {od__law_value an__law_value : Option Addr} {sl__law_value : Array (Option Value)}
    (a__law_value : PySem.W.nsIn K mainGlobals "_law_value" = some (some (.ref f__law_value))) (l__law_value : K.lookup f__law_value = some ⟨oc__law_value, od__law_value, .func (PySem.W.fnOf "_law_value" "_law_value" (defArgs s__law_value) (defBody s__law_value) (defScope s__law_value) .none kV__law_value dc__law_value pm__law_value an__law_value cd__law_value ct__law_value), sl__law_value⟩) (c__law_value : PySem.W.codeIn K cd__law_value "_law_value" = true) (k__law_value : PySem.W.keepIn K (.ref f__law_value) = true)
    {f__law_fields : Addr} {oc__law_fields kV__law_fields dc__law_fields pm__law_fields cd__law_fields ct__law_fields : Value} {od__law_fields an__law_fields : Option Addr} {sl__law_fields : Array (Option Value)}
    (a__law_fields : PySem.W.nsIn K mainGlobals "_law_fields" = some (some (.ref f__law_fields))) (l__law_fields : K.lookup f__law_fields = some ⟨oc__law_fields, od__law_fields, .func (PySem.W.fnOf "_law_fields" "_law_fields" (defArgs s__law_fields) (defBody s__law_fields) (defScope s__law_fields) .none kV__law_fields dc__law_fields pm__law_fields an__law_fields cd__law_fields ct__law_fields), sl__law_fields⟩) (c__law_fields : PySem.W.codeIn K cd__law_fields "_law_fields" = true) (k__law_fields : PySem.W.keepIn K (.ref f__law_fields) = true)
    {f__law_kinds : Addr} {oc__law_kinds kV__law_kinds dc__law_kinds pm__law_kinds cd__law_kinds ct__law_kinds : Value} {od__law_kinds an__law_kinds : Option Addr} {sl__law_kinds : Array (Option Value)}
    (a__law_kinds : PySem.W.nsIn K mainGlobals "_law_kinds" = some (some (.ref f__law_kinds))) (l__law_kinds : K.lookup f__law_kinds = some ⟨oc__law_kinds, od__law_kinds, .func (PySem.W.fnOf "_law_kinds" "_law_kinds" (defArgs s__law_kinds) (defBody s__law_kinds) (defScope s__law_kinds) .none kV__law_kinds dc__law_kinds pm__law_kinds an__law_kinds cd__law_kinds ct__law_kinds), sl__law_kinds⟩) (c__law_kinds : PySem.W.codeIn K cd__law_kinds "_law_kinds" = true) (k__law_kinds : PySem.W.keepIn K (.ref f__law_kinds) = true)
    {f__law_families : Addr} {oc__law_families kV__law_families dc__law_families pm__law_families cd__law_families ct__law_families : Value} {od__law_families an__law_families : Option Addr} {sl__law_families : Array (Option Value)}
    (a__law_families : PySem.W.nsIn K mainGlobals "_law_families" = some (some (.ref f__law_families))) (l__law_families : K.lookup f__law_families = some ⟨oc__law_families, od__law_families, .func (PySem.W.fnOf "_law_families" "_law_families" (defArgs s__law_families) (defBody s__law_families) (defScope s__law_families) .none kV__law_families dc__law_families pm__law_families an__law_families cd__law_families ct__law_families), sl__law_families⟩) (c__law_families : PySem.W.codeIn K cd__law_families "_law_families" = true) (k__law_families : PySem.W.keepIn K (.ref f__law_families) = true)
    {f_law : Addr} {oc_law kV_law dc_law pm_law cd_law ct_law : Value} {od_law an_law : Option Addr} {sl_law : Array (Option Value)}
    (a_law : PySem.W.nsIn K mainGlobals "law" = some (some (.ref f_law))) (l_law : K.lookup f_law = some ⟨oc_law, od_law, .func (PySem.W.fnOf "law" "law" (defArgs s_law) (defBody s_law) (defScope s_law) .none kV_law dc_law pm_law an_law cd_law ct_law), sl_law⟩) (c_law : PySem.W.codeIn K cd_law "law" = true) (k_law : PySem.W.keepIn K (.ref f_law) = true)
    (z_LookupError : PySem.W.nsIn K mainGlobals "LookupError" = some none)
    (z_ValueError : PySem.W.nsIn K mainGlobals "ValueError" = some none)
    (z_abs : PySem.W.nsIn K mainGlobals "abs" = some none)
    (z_int : PySem.W.nsIn K mainGlobals "int" = some none)
    (z_isinstance : PySem.W.nsIn K mainGlobals "isinstance" = some none)
    (z_len : PySem.W.nsIn K mainGlobals "len" = some none)
    (z_list : PySem.W.nsIn K mainGlobals "list" = some none)
    (z_range : PySem.W.nsIn K mainGlobals "range" = some none)
    (z_repr : PySem.W.nsIn K mainGlobals "repr" = some none)
    (z_str : PySem.W.nsIn K mainGlobals "str" = some none)
    {C_SlideError : Addr} (a_SlideError : PySem.W.nsIn K mainGlobals "SlideError" = some (some (.ref C_SlideError))) (e_SlideError : ecIn K C_SlideError "SlideError" veL "ValueError.__new__" = true)
    (x_SlideError : PySem.W.excIn K C_SlideError [.type "ValueError", .type "Exception", .type "BaseException", .type "object"] "ValueError.__new__" = true)
    {C_NoFraction : Addr} (a_NoFraction : PySem.W.nsIn K mainGlobals "NoFraction" = some (some (.ref C_NoFraction))) (e_NoFraction : ecIn K C_NoFraction "NoFraction" (.ref C_SlideError :: veL) "ValueError.__new__" = true)
    (x_NoFraction : PySem.W.excIn K C_NoFraction [.type "ValueError", .type "Exception", .type "BaseException", .type "object"] "ValueError.__new__" = true)
    {C_BadForm : Addr} (a_BadForm : PySem.W.nsIn K mainGlobals "BadForm" = some (some (.ref C_BadForm))) (e_BadForm : ecIn K C_BadForm "BadForm" (.ref C_SlideError :: veL) "ValueError.__new__" = true)
    (x_BadForm : PySem.W.excIn K C_BadForm [.type "ValueError", .type "Exception", .type "BaseException", .type "object"] "ValueError.__new__" = true)
    {C_BadRule : Addr} (a_BadRule : PySem.W.nsIn K mainGlobals "BadRule" = some (some (.ref C_BadRule))) (e_BadRule : ecIn K C_BadRule "BadRule" (.ref C_SlideError :: veL) "ValueError.__new__" = true)
    {f_i_BadRule : Addr} {oc_i_BadRule kV_i_BadRule dc_i_BadRule pm_i_BadRule cd_i_BadRule ct_i_BadRule : Value} {od_i_BadRule an_i_BadRule : Option Addr} {sl_i_BadRule : Array (Option Value)} (b_i_BadRule : PySem.W.findIn K (.ref C_BadRule) "__init__" = some (some (.ref f_i_BadRule))) (l_i_BadRule : K.lookup f_i_BadRule = some ⟨oc_i_BadRule, od_i_BadRule, .func (PySem.W.fnOf "__init__" "BadRule.__init__" (defArgs i_BadRule) (defBody i_BadRule) (defScope i_BadRule) .none kV_i_BadRule dc_i_BadRule pm_i_BadRule an_i_BadRule cd_i_BadRule ct_i_BadRule), sl_i_BadRule⟩) (c_i_BadRule : PySem.W.codeIn K cd_i_BadRule "BadRule.__init__" = true) (k_i_BadRule : PySem.W.keepIn K (.ref f_i_BadRule) = true) (t_i_BadRule : PySem.W.typeIn K (.ref f_i_BadRule) = some (.type "function"))
    (n_BadRule_word : PySem.W.findIn K (.ref C_BadRule) "word" = some none)
    {C_NoStretch : Addr} (a_NoStretch : PySem.W.nsIn K mainGlobals "NoStretch" = some (some (.ref C_NoStretch))) (e_NoStretch : ecIn K C_NoStretch "NoStretch" (.ref C_SlideError :: veL) "ValueError.__new__" = true)
    {f_i_NoStretch : Addr} {oc_i_NoStretch kV_i_NoStretch dc_i_NoStretch pm_i_NoStretch cd_i_NoStretch ct_i_NoStretch : Value} {od_i_NoStretch an_i_NoStretch : Option Addr} {sl_i_NoStretch : Array (Option Value)} (b_i_NoStretch : PySem.W.findIn K (.ref C_NoStretch) "__init__" = some (some (.ref f_i_NoStretch))) (l_i_NoStretch : K.lookup f_i_NoStretch = some ⟨oc_i_NoStretch, od_i_NoStretch, .func (PySem.W.fnOf "__init__" "NoStretch.__init__" (defArgs i_NoStretch) (defBody i_NoStretch) (defScope i_NoStretch) .none kV_i_NoStretch dc_i_NoStretch pm_i_NoStretch an_i_NoStretch cd_i_NoStretch ct_i_NoStretch), sl_i_NoStretch⟩) (c_i_NoStretch : PySem.W.codeIn K cd_i_NoStretch "NoStretch.__init__" = true) (k_i_NoStretch : PySem.W.keepIn K (.ref f_i_NoStretch) = true) (t_i_NoStretch : PySem.W.typeIn K (.ref f_i_NoStretch) = some (.type "function"))
    (n_NoStretch_stretch : PySem.W.findIn K (.ref C_NoStretch) "stretch" = some none)
    {C_NoMantissa : Addr} (a_NoMantissa : PySem.W.nsIn K mainGlobals "NoMantissa" = some (some (.ref C_NoMantissa))) (e_NoMantissa : ecIn K C_NoMantissa "NoMantissa" (.ref C_SlideError :: veL) "ValueError.__new__" = true)
    {f_i_NoMantissa : Addr} {oc_i_NoMantissa kV_i_NoMantissa dc_i_NoMantissa pm_i_NoMantissa cd_i_NoMantissa ct_i_NoMantissa : Value} {od_i_NoMantissa an_i_NoMantissa : Option Addr} {sl_i_NoMantissa : Array (Option Value)} (b_i_NoMantissa : PySem.W.findIn K (.ref C_NoMantissa) "__init__" = some (some (.ref f_i_NoMantissa))) (l_i_NoMantissa : K.lookup f_i_NoMantissa = some ⟨oc_i_NoMantissa, od_i_NoMantissa, .func (PySem.W.fnOf "__init__" "NoMantissa.__init__" (defArgs i_NoMantissa) (defBody i_NoMantissa) (defScope i_NoMantissa) .none kV_i_NoMantissa dc_i_NoMantissa pm_i_NoMantissa an_i_NoMantissa cd_i_NoMantissa ct_i_NoMantissa), sl_i_NoMantissa⟩) (c_i_NoMantissa : PySem.W.codeIn K cd_i_NoMantissa "NoMantissa.__init__" = true) (k_i_NoMantissa : PySem.W.keepIn K (.ref f_i_NoMantissa) = true) (t_i_NoMantissa : PySem.W.typeIn K (.ref f_i_NoMantissa) = some (.type "function"))
    (n_NoMantissa_value : PySem.W.findIn K (.ref C_NoMantissa) "value" = some none)
    {C_NoPosition : Addr} (a_NoPosition : PySem.W.nsIn K mainGlobals "NoPosition" = some (some (.ref C_NoPosition))) (e_NoPosition : ecIn K C_NoPosition "NoPosition" (.ref C_SlideError :: veL) "ValueError.__new__" = true)
    {f_i_NoPosition : Addr} {oc_i_NoPosition kV_i_NoPosition dc_i_NoPosition pm_i_NoPosition cd_i_NoPosition ct_i_NoPosition : Value} {od_i_NoPosition an_i_NoPosition : Option Addr} {sl_i_NoPosition : Array (Option Value)} (b_i_NoPosition : PySem.W.findIn K (.ref C_NoPosition) "__init__" = some (some (.ref f_i_NoPosition))) (l_i_NoPosition : K.lookup f_i_NoPosition = some ⟨oc_i_NoPosition, od_i_NoPosition, .func (PySem.W.fnOf "__init__" "NoPosition.__init__" (defArgs i_NoPosition) (defBody i_NoPosition) (defScope i_NoPosition) .none kV_i_NoPosition dc_i_NoPosition pm_i_NoPosition an_i_NoPosition cd_i_NoPosition ct_i_NoPosition), sl_i_NoPosition⟩) (c_i_NoPosition : PySem.W.codeIn K cd_i_NoPosition "NoPosition.__init__" = true) (k_i_NoPosition : PySem.W.keepIn K (.ref f_i_NoPosition) = true) (t_i_NoPosition : PySem.W.typeIn K (.ref f_i_NoPosition) = some (.type "function"))
    (n_NoPosition_value : PySem.W.findIn K (.ref C_NoPosition) "value" = some none)
    {C_BadWorking : Addr} (a_BadWorking : PySem.W.nsIn K mainGlobals "BadWorking" = some (some (.ref C_BadWorking))) (e_BadWorking : ecIn K C_BadWorking "BadWorking" (.ref C_SlideError :: veL) "ValueError.__new__" = true)
    {f_i_BadWorking : Addr} {oc_i_BadWorking kV_i_BadWorking dc_i_BadWorking pm_i_BadWorking cd_i_BadWorking ct_i_BadWorking : Value} {od_i_BadWorking an_i_BadWorking : Option Addr} {sl_i_BadWorking : Array (Option Value)} (b_i_BadWorking : PySem.W.findIn K (.ref C_BadWorking) "__init__" = some (some (.ref f_i_BadWorking))) (l_i_BadWorking : K.lookup f_i_BadWorking = some ⟨oc_i_BadWorking, od_i_BadWorking, .func (PySem.W.fnOf "__init__" "BadWorking.__init__" (defArgs i_BadWorking) (defBody i_BadWorking) (defScope i_BadWorking) .none kV_i_BadWorking dc_i_BadWorking pm_i_BadWorking an_i_BadWorking cd_i_BadWorking ct_i_BadWorking), sl_i_BadWorking⟩) (c_i_BadWorking : PySem.W.codeIn K cd_i_BadWorking "BadWorking.__init__" = true) (k_i_BadWorking : PySem.W.keepIn K (.ref f_i_BadWorking) = true) (t_i_BadWorking : PySem.W.typeIn K (.ref f_i_BadWorking) = some (.type "function"))
    (n_BadWorking_error : PySem.W.findIn K (.ref C_BadWorking) "error" = some none)
    {C_Misfit : Addr} (a_Misfit : PySem.W.nsIn K mainGlobals "Misfit" = some (some (.ref C_Misfit))) (e_Misfit : ecIn K C_Misfit "Misfit" (.ref C_SlideError :: veL) "ValueError.__new__" = true)
    {f_i_Misfit : Addr} {oc_i_Misfit kV_i_Misfit dc_i_Misfit pm_i_Misfit cd_i_Misfit ct_i_Misfit : Value} {od_i_Misfit an_i_Misfit : Option Addr} {sl_i_Misfit : Array (Option Value)} (b_i_Misfit : PySem.W.findIn K (.ref C_Misfit) "__init__" = some (some (.ref f_i_Misfit))) (l_i_Misfit : K.lookup f_i_Misfit = some ⟨oc_i_Misfit, od_i_Misfit, .func (PySem.W.fnOf "__init__" "Misfit.__init__" (defArgs i_Misfit) (defBody i_Misfit) (defScope i_Misfit) .none kV_i_Misfit dc_i_Misfit pm_i_Misfit an_i_Misfit cd_i_Misfit ct_i_Misfit), sl_i_Misfit⟩) (c_i_Misfit : PySem.W.codeIn K cd_i_Misfit "Misfit.__init__" = true) (k_i_Misfit : PySem.W.keepIn K (.ref f_i_Misfit) = true) (t_i_Misfit : PySem.W.typeIn K (.ref f_i_Misfit) = some (.type "function"))
    (n_Misfit_number : PySem.W.findIn K (.ref C_Misfit) "number" = some none)
    (n_Misfit_word : PySem.W.findIn K (.ref C_Misfit) "word" = some none)
    {C_BadText : Addr} (a_BadText : PySem.W.nsIn K mainGlobals "BadText" = some (some (.ref C_BadText))) (e_BadText : ecIn K C_BadText "BadText" (.ref C_SlideError :: veL) "ValueError.__new__" = true)
    {f_i_BadText : Addr} {oc_i_BadText kV_i_BadText dc_i_BadText pm_i_BadText cd_i_BadText ct_i_BadText : Value} {od_i_BadText an_i_BadText : Option Addr} {sl_i_BadText : Array (Option Value)} (b_i_BadText : PySem.W.findIn K (.ref C_BadText) "__init__" = some (some (.ref f_i_BadText))) (l_i_BadText : K.lookup f_i_BadText = some ⟨oc_i_BadText, od_i_BadText, .func (PySem.W.fnOf "__init__" "BadText.__init__" (defArgs i_BadText) (defBody i_BadText) (defScope i_BadText) .none kV_i_BadText dc_i_BadText pm_i_BadText an_i_BadText cd_i_BadText ct_i_BadText), sl_i_BadText⟩) (c_i_BadText : PySem.W.codeIn K cd_i_BadText "BadText.__init__" = true) (k_i_BadText : PySem.W.keepIn K (.ref f_i_BadText) = true) (t_i_BadText : PySem.W.typeIn K (.ref f_i_BadText) = some (.type "function"))
    (n_BadText_place : PySem.W.findIn K (.ref C_BadText) "place" = some none)
    {C_TooMany : Addr} (a_TooMany : PySem.W.nsIn K mainGlobals "TooMany" = some (some (.ref C_TooMany))) (e_TooMany : ecIn K C_TooMany "TooMany" (.ref C_SlideError :: veL) "ValueError.__new__" = true)
    {f_i_TooMany : Addr} {oc_i_TooMany kV_i_TooMany dc_i_TooMany pm_i_TooMany cd_i_TooMany ct_i_TooMany : Value} {od_i_TooMany an_i_TooMany : Option Addr} {sl_i_TooMany : Array (Option Value)} (b_i_TooMany : PySem.W.findIn K (.ref C_TooMany) "__init__" = some (some (.ref f_i_TooMany))) (l_i_TooMany : K.lookup f_i_TooMany = some ⟨oc_i_TooMany, od_i_TooMany, .func (PySem.W.fnOf "__init__" "TooMany.__init__" (defArgs i_TooMany) (defBody i_TooMany) (defScope i_TooMany) .none kV_i_TooMany dc_i_TooMany pm_i_TooMany an_i_TooMany cd_i_TooMany ct_i_TooMany), sl_i_TooMany⟩) (c_i_TooMany : PySem.W.codeIn K cd_i_TooMany "TooMany.__init__" = true) (k_i_TooMany : PySem.W.keepIn K (.ref f_i_TooMany) = true) (t_i_TooMany : PySem.W.typeIn K (.ref f_i_TooMany) = some (.type "function"))
    (n_TooMany_limit : PySem.W.findIn K (.ref C_TooMany) "limit" = some none)
    {C_BadWish : Addr} (a_BadWish : PySem.W.nsIn K mainGlobals "BadWish" = some (some (.ref C_BadWish))) (e_BadWish : ecIn K C_BadWish "BadWish" (.ref C_SlideError :: veL) "ValueError.__new__" = true)
    {f_i_BadWish : Addr} {oc_i_BadWish kV_i_BadWish dc_i_BadWish pm_i_BadWish cd_i_BadWish ct_i_BadWish : Value} {od_i_BadWish an_i_BadWish : Option Addr} {sl_i_BadWish : Array (Option Value)} (b_i_BadWish : PySem.W.findIn K (.ref C_BadWish) "__init__" = some (some (.ref f_i_BadWish))) (l_i_BadWish : K.lookup f_i_BadWish = some ⟨oc_i_BadWish, od_i_BadWish, .func (PySem.W.fnOf "__init__" "BadWish.__init__" (defArgs i_BadWish) (defBody i_BadWish) (defScope i_BadWish) .none kV_i_BadWish dc_i_BadWish pm_i_BadWish an_i_BadWish cd_i_BadWish ct_i_BadWish), sl_i_BadWish⟩) (c_i_BadWish : PySem.W.codeIn K cd_i_BadWish "BadWish.__init__" = true) (k_i_BadWish : PySem.W.keepIn K (.ref f_i_BadWish) = true) (t_i_BadWish : PySem.W.typeIn K (.ref f_i_BadWish) = some (.type "function"))
    (n_BadWish_word : PySem.W.findIn K (.ref C_BadWish) "word" = some none)
    {C_BadFeatures : Addr} (a_BadFeatures : PySem.W.nsIn K mainGlobals "BadFeatures" = some (some (.ref C_BadFeatures))) (e_BadFeatures : ecIn K C_BadFeatures "BadFeatures" (.ref C_SlideError :: veL) "ValueError.__new__" = true)
    {f_i_BadFeatures : Addr} {oc_i_BadFeatures kV_i_BadFeatures dc_i_BadFeatures pm_i_BadFeatures cd_i_BadFeatures ct_i_BadFeatures : Value} {od_i_BadFeatures an_i_BadFeatures : Option Addr} {sl_i_BadFeatures : Array (Option Value)} (b_i_BadFeatures : PySem.W.findIn K (.ref C_BadFeatures) "__init__" = some (some (.ref f_i_BadFeatures))) (l_i_BadFeatures : K.lookup f_i_BadFeatures = some ⟨oc_i_BadFeatures, od_i_BadFeatures, .func (PySem.W.fnOf "__init__" "BadFeatures.__init__" (defArgs i_BadFeatures) (defBody i_BadFeatures) (defScope i_BadFeatures) .none kV_i_BadFeatures dc_i_BadFeatures pm_i_BadFeatures an_i_BadFeatures cd_i_BadFeatures ct_i_BadFeatures), sl_i_BadFeatures⟩) (c_i_BadFeatures : PySem.W.codeIn K cd_i_BadFeatures "BadFeatures.__init__" = true) (k_i_BadFeatures : PySem.W.keepIn K (.ref f_i_BadFeatures) = true) (t_i_BadFeatures : PySem.W.typeIn K (.ref f_i_BadFeatures) = some (.type "function"))
    (n_BadFeatures_index : PySem.W.findIn K (.ref C_BadFeatures) "index" = some none)
    {C_BadBook : Addr} (a_BadBook : PySem.W.nsIn K mainGlobals "BadBook" = some (some (.ref C_BadBook))) (e_BadBook : ecIn K C_BadBook "BadBook" (.ref C_SlideError :: veL) "ValueError.__new__" = true)
    (x_BadBook : PySem.W.excIn K C_BadBook [.type "ValueError", .type "Exception", .type "BaseException", .type "object"] "ValueError.__new__" = true)
    {C_Off : Addr} (a_Off : PySem.W.nsIn K mainGlobals "Off" = some (some (.ref C_Off))) (e_Off : ecIn K C_Off "Off" (.ref C_SlideError :: veL) "ValueError.__new__" = true)
    {f_i_Off : Addr} {oc_i_Off kV_i_Off dc_i_Off pm_i_Off cd_i_Off ct_i_Off : Value} {od_i_Off an_i_Off : Option Addr} {sl_i_Off : Array (Option Value)} (b_i_Off : PySem.W.findIn K (.ref C_Off) "__init__" = some (some (.ref f_i_Off))) (l_i_Off : K.lookup f_i_Off = some ⟨oc_i_Off, od_i_Off, .func (PySem.W.fnOf "__init__" "Off.__init__" (defArgs i_Off) (defBody i_Off) (defScope i_Off) .none kV_i_Off dc_i_Off pm_i_Off an_i_Off cd_i_Off ct_i_Off), sl_i_Off⟩) (c_i_Off : PySem.W.codeIn K cd_i_Off "Off.__init__" = true) (k_i_Off : PySem.W.keepIn K (.ref f_i_Off) = true) (t_i_Off : PySem.W.typeIn K (.ref f_i_Off) = some (.type "function"))
    (n_Off_number : PySem.W.findIn K (.ref C_Off) "number" = some none)
    {C_BadName : Addr} (a_BadName : PySem.W.nsIn K mainGlobals "BadName" = some (some (.ref C_BadName))) (e_BadName : ecIn K C_BadName "BadName" (.ref C_SlideError :: veL) "ValueError.__new__" = true)
    {f_i_BadName : Addr} {oc_i_BadName kV_i_BadName dc_i_BadName pm_i_BadName cd_i_BadName ct_i_BadName : Value} {od_i_BadName an_i_BadName : Option Addr} {sl_i_BadName : Array (Option Value)} (b_i_BadName : PySem.W.findIn K (.ref C_BadName) "__init__" = some (some (.ref f_i_BadName))) (l_i_BadName : K.lookup f_i_BadName = some ⟨oc_i_BadName, od_i_BadName, .func (PySem.W.fnOf "__init__" "BadName.__init__" (defArgs i_BadName) (defBody i_BadName) (defScope i_BadName) .none kV_i_BadName dc_i_BadName pm_i_BadName an_i_BadName cd_i_BadName ct_i_BadName), sl_i_BadName⟩) (c_i_BadName : PySem.W.codeIn K cd_i_BadName "BadName.__init__" = true) (k_i_BadName : PySem.W.keepIn K (.ref f_i_BadName) = true) (t_i_BadName : PySem.W.typeIn K (.ref f_i_BadName) = some (.type "function"))
    (n_BadName_name : PySem.W.findIn K (.ref C_BadName) "name" = some none)
    {C_NotRule : Addr} (a_NotRule : PySem.W.nsIn K mainGlobals "NotRule" = some (some (.ref C_NotRule))) (e_NotRule : ecIn K C_NotRule "NotRule" (.ref C_SlideError :: veL) "ValueError.__new__" = true)
    (x_NotRule : PySem.W.excIn K C_NotRule [.type "ValueError", .type "Exception", .type "BaseException", .type "object"] "ValueError.__new__" = true)
    {C_Unkept : Addr} (a_Unkept : PySem.W.nsIn K mainGlobals "Unkept" = some (some (.ref C_Unkept))) (e_Unkept : ecIn K C_Unkept "Unkept" (.ref C_SlideError :: veL) "ValueError.__new__" = true)
    {f_i_Unkept : Addr} {oc_i_Unkept kV_i_Unkept dc_i_Unkept pm_i_Unkept cd_i_Unkept ct_i_Unkept : Value} {od_i_Unkept an_i_Unkept : Option Addr} {sl_i_Unkept : Array (Option Value)} (b_i_Unkept : PySem.W.findIn K (.ref C_Unkept) "__init__" = some (some (.ref f_i_Unkept))) (l_i_Unkept : K.lookup f_i_Unkept = some ⟨oc_i_Unkept, od_i_Unkept, .func (PySem.W.fnOf "__init__" "Unkept.__init__" (defArgs i_Unkept) (defBody i_Unkept) (defScope i_Unkept) .none kV_i_Unkept dc_i_Unkept pm_i_Unkept an_i_Unkept cd_i_Unkept ct_i_Unkept), sl_i_Unkept⟩) (c_i_Unkept : PySem.W.codeIn K cd_i_Unkept "Unkept.__init__" = true) (k_i_Unkept : PySem.W.keepIn K (.ref f_i_Unkept) = true) (t_i_Unkept : PySem.W.typeIn K (.ref f_i_Unkept) = some (.type "function"))
    (n_Unkept_name : PySem.W.findIn K (.ref C_Unkept) "name" = some none)
    {C_Full : Addr} (a_Full : PySem.W.nsIn K mainGlobals "Full" = some (some (.ref C_Full))) (e_Full : ecIn K C_Full "Full" (.ref C_SlideError :: veL) "ValueError.__new__" = true)
    (x_Full : PySem.W.excIn K C_Full [.type "ValueError", .type "Exception", .type "BaseException", .type "object"] "ValueError.__new__" = true)
    {C_Busy : Addr} (a_Busy : PySem.W.nsIn K mainGlobals "Busy" = some (some (.ref C_Busy))) (e_Busy : ecIn K C_Busy "Busy" (.ref C_SlideError :: veL) "ValueError.__new__" = true)
    (x_Busy : PySem.W.excIn K C_Busy [.type "ValueError", .type "Exception", .type "BaseException", .type "object"] "ValueError.__new__" = true)
    {C_NothingToUndo : Addr} (a_NothingToUndo : PySem.W.nsIn K mainGlobals "NothingToUndo" = some (some (.ref C_NothingToUndo))) (e_NothingToUndo : ecIn K C_NothingToUndo "NothingToUndo" (.ref C_SlideError :: veL) "ValueError.__new__" = true)
    (x_NothingToUndo : PySem.W.excIn K C_NothingToUndo [.type "ValueError", .type "Exception", .type "BaseException", .type "object"] "ValueError.__new__" = true)
    {C_Missing : Addr} (a_Missing : PySem.W.nsIn K mainGlobals "Missing" = some (some (.ref C_Missing))) (e_Missing : ecIn K C_Missing "Missing" lkL "LookupError.__new__" = true)
    {f_i_Missing : Addr} {oc_i_Missing kV_i_Missing dc_i_Missing pm_i_Missing cd_i_Missing ct_i_Missing : Value} {od_i_Missing an_i_Missing : Option Addr} {sl_i_Missing : Array (Option Value)} (b_i_Missing : PySem.W.findIn K (.ref C_Missing) "__init__" = some (some (.ref f_i_Missing))) (l_i_Missing : K.lookup f_i_Missing = some ⟨oc_i_Missing, od_i_Missing, .func (PySem.W.fnOf "__init__" "Missing.__init__" (defArgs i_Missing) (defBody i_Missing) (defScope i_Missing) .none kV_i_Missing dc_i_Missing pm_i_Missing an_i_Missing cd_i_Missing ct_i_Missing), sl_i_Missing⟩) (c_i_Missing : PySem.W.codeIn K cd_i_Missing "Missing.__init__" = true) (k_i_Missing : PySem.W.keepIn K (.ref f_i_Missing) = true) (t_i_Missing : PySem.W.typeIn K (.ref f_i_Missing) = some (.type "function"))
    (n_Missing_name : PySem.W.findIn K (.ref C_Missing) "name" = some none)
    {C_NoScale : Addr} (a_NoScale : PySem.W.nsIn K mainGlobals "NoScale" = some (some (.ref C_NoScale))) (e_NoScale : ecIn K C_NoScale "NoScale" lkL "LookupError.__new__" = true)
    {f_i_NoScale : Addr} {oc_i_NoScale kV_i_NoScale dc_i_NoScale pm_i_NoScale cd_i_NoScale ct_i_NoScale : Value} {od_i_NoScale an_i_NoScale : Option Addr} {sl_i_NoScale : Array (Option Value)} (b_i_NoScale : PySem.W.findIn K (.ref C_NoScale) "__init__" = some (some (.ref f_i_NoScale))) (l_i_NoScale : K.lookup f_i_NoScale = some ⟨oc_i_NoScale, od_i_NoScale, .func (PySem.W.fnOf "__init__" "NoScale.__init__" (defArgs i_NoScale) (defBody i_NoScale) (defScope i_NoScale) .none kV_i_NoScale dc_i_NoScale pm_i_NoScale an_i_NoScale cd_i_NoScale ct_i_NoScale), sl_i_NoScale⟩) (c_i_NoScale : PySem.W.codeIn K cd_i_NoScale "NoScale.__init__" = true) (k_i_NoScale : PySem.W.keepIn K (.ref f_i_NoScale) = true) (t_i_NoScale : PySem.W.typeIn K (.ref f_i_NoScale) = some (.type "function"))
    (n_NoScale_name : PySem.W.findIn K (.ref C_NoScale) "name" = some none)
    {C_NoWorking : Addr} (a_NoWorking : PySem.W.nsIn K mainGlobals "NoWorking" = some (some (.ref C_NoWorking))) (e_NoWorking : ecIn K C_NoWorking "NoWorking" lkL "LookupError.__new__" = true)
    {f_i_NoWorking : Addr} {oc_i_NoWorking kV_i_NoWorking dc_i_NoWorking pm_i_NoWorking cd_i_NoWorking ct_i_NoWorking : Value} {od_i_NoWorking an_i_NoWorking : Option Addr} {sl_i_NoWorking : Array (Option Value)} (b_i_NoWorking : PySem.W.findIn K (.ref C_NoWorking) "__init__" = some (some (.ref f_i_NoWorking))) (l_i_NoWorking : K.lookup f_i_NoWorking = some ⟨oc_i_NoWorking, od_i_NoWorking, .func (PySem.W.fnOf "__init__" "NoWorking.__init__" (defArgs i_NoWorking) (defBody i_NoWorking) (defScope i_NoWorking) .none kV_i_NoWorking dc_i_NoWorking pm_i_NoWorking an_i_NoWorking cd_i_NoWorking ct_i_NoWorking), sl_i_NoWorking⟩) (c_i_NoWorking : PySem.W.codeIn K cd_i_NoWorking "NoWorking.__init__" = true) (k_i_NoWorking : PySem.W.keepIn K (.ref f_i_NoWorking) = true) (t_i_NoWorking : PySem.W.typeIn K (.ref f_i_NoWorking) = some (.type "function"))
    (n_NoWorking_name : PySem.W.findIn K (.ref C_NoWorking) "name" = some none)
    {t_MAX_TURNS : Tok} (c_MAX_TURNS : PySem.W.nsIn K mainGlobals "MAX_TURNS" = some (some (.int 3 t_MAX_TURNS)))
    {t_MAX_SCALES : Tok} (c_MAX_SCALES : PySem.W.nsIn K mainGlobals "MAX_SCALES" = some (some (.int 6 t_MAX_SCALES)))
    {t_MAX_STEPS : Tok} (c_MAX_STEPS : PySem.W.nsIn K mainGlobals "MAX_STEPS" = some (some (.int 10 t_MAX_STEPS)))
    {t_MAX_DEPTH : Tok} (c_MAX_DEPTH : PySem.W.nsIn K mainGlobals "MAX_DEPTH" = some (some (.int 2 t_MAX_DEPTH)))
    {t_MAX_OPERANDS : Tok} (c_MAX_OPERANDS : PySem.W.nsIn K mainGlobals "MAX_OPERANDS" = some (some (.int 3 t_MAX_OPERANDS)))
    {t_MAX_FACTOR : Tok} (c_MAX_FACTOR : PySem.W.nsIn K mainGlobals "MAX_FACTOR" = some (some (.int 3 t_MAX_FACTOR)))
    {t_MAX_FEATURES : Tok} (c_MAX_FEATURES : PySem.W.nsIn K mainGlobals "MAX_FEATURES" = some (some (.int 6 t_MAX_FEATURES)))
    {t_MAX_DEEDS : Tok} (c_MAX_DEEDS : PySem.W.nsIn K mainGlobals "MAX_DEEDS" = some (some (.int 30 t_MAX_DEEDS)))
    (oc1 : PySem.W.specialIn K (.builtin "object.__class__") "__get__" = some (some (.builtin "getset_descriptor.__get__"))) (oc2 : PySem.W.takesIn K (.builtin "object.__class__") = some true) : Txt K mg where
    _law_deck := def_mk X G a__law_deck l__law_deck c__law_deck k__law_deck (fun _ _ _ _ _ _ us hl => match us, hl with | [_], _ => rfl)
    _law_take := def_mk X G a__law_take l__law_take c__law_take k__law_take (fun _ _ _ _ _ _ us hl => match us, hl with | [_, _], _ => rfl)
    _law_value := def_mk X G a__law_value l__law_value c__law_value k__law_value (fun _ _ _ _ _ _ us hl => match us, hl with | [_], _ => rfl)
    _law_fields := def_mk X G a__law_fields l__law_fields c__law_fields k__law_fields (fun _ _ _ _ _ _ us hl => match us, hl with | [_, _], _ => rfl)
    _law_kinds := def_mk X G a__law_kinds l__law_kinds c__law_kinds k__law_kinds (fun _ _ _ _ _ _ us hl => match us, hl with | [_], _ => rfl)
    _law_families := def_mk X G a__law_families l__law_families c__law_families k__law_families (fun _ _ _ _ _ _ us hl => match us, hl with | [_], _ => rfl)
    law := def_mk X G a_law l_law c_law k_law (fun _ _ _ _ _ _ us hl => match us, hl with | [_], _ => rfl)
    m_LookupError := PySem.W.mg_none_of X G z_LookupError
    m_ValueError := PySem.W.mg_none_of X G z_ValueError
    m_abs := PySem.W.mg_none_of X G z_abs
    m_int := PySem.W.mg_none_of X G z_int
    m_isinstance := PySem.W.mg_none_of X G z_isinstance
    m_len := PySem.W.mg_none_of X G z_len
    m_list := PySem.W.mg_none_of X G z_list
    m_range := PySem.W.mg_none_of X G z_range
    m_repr := PySem.W.mg_none_of X G z_repr
    m_str := PySem.W.mg_none_of X G z_str
    SlideError := ⟨C_SlideError, PySem.W.mg_of X G a_SlideError, .of e_SlideError⟩
    x_SlideError := x_SlideError
    NoFraction := ⟨C_NoFraction, PySem.W.mg_of X G a_NoFraction, .of e_NoFraction⟩
    x_NoFraction := x_NoFraction
    BadForm := ⟨C_BadForm, PySem.W.mg_of X G a_BadForm, .of e_BadForm⟩
    x_BadForm := x_BadForm
    BadRule := ⟨C_BadRule, PySem.W.mg_of X G a_BadRule, .of e_BadRule⟩
    i_BadRule := ⟨_, _, fun_mk l_i_BadRule c_i_BadRule k_i_BadRule, (fun_mk (x := "__init__") (qual := "BadRule.__init__") (st := i_BadRule) l_i_BadRule c_i_BadRule k_i_BadRule).binds (fun _ _ _ _ _ _ us hl => match us, hl with | [_, _], _ => rfl), b_i_BadRule, t_i_BadRule⟩
    n_BadRule_word := n_BadRule_word
    NoStretch := ⟨C_NoStretch, PySem.W.mg_of X G a_NoStretch, .of e_NoStretch⟩
    i_NoStretch := ⟨_, _, fun_mk l_i_NoStretch c_i_NoStretch k_i_NoStretch, (fun_mk (x := "__init__") (qual := "NoStretch.__init__") (st := i_NoStretch) l_i_NoStretch c_i_NoStretch k_i_NoStretch).binds (fun _ _ _ _ _ _ us hl => match us, hl with | [_, _], _ => rfl), b_i_NoStretch, t_i_NoStretch⟩
    n_NoStretch_stretch := n_NoStretch_stretch
    NoMantissa := ⟨C_NoMantissa, PySem.W.mg_of X G a_NoMantissa, .of e_NoMantissa⟩
    i_NoMantissa := ⟨_, _, fun_mk l_i_NoMantissa c_i_NoMantissa k_i_NoMantissa, (fun_mk (x := "__init__") (qual := "NoMantissa.__init__") (st := i_NoMantissa) l_i_NoMantissa c_i_NoMantissa k_i_NoMantissa).binds (fun _ _ _ _ _ _ us hl => match us, hl with | [_, _], _ => rfl), b_i_NoMantissa, t_i_NoMantissa⟩
    n_NoMantissa_value := n_NoMantissa_value
    NoPosition := ⟨C_NoPosition, PySem.W.mg_of X G a_NoPosition, .of e_NoPosition⟩
    i_NoPosition := ⟨_, _, fun_mk l_i_NoPosition c_i_NoPosition k_i_NoPosition, (fun_mk (x := "__init__") (qual := "NoPosition.__init__") (st := i_NoPosition) l_i_NoPosition c_i_NoPosition k_i_NoPosition).binds (fun _ _ _ _ _ _ us hl => match us, hl with | [_, _], _ => rfl), b_i_NoPosition, t_i_NoPosition⟩
    n_NoPosition_value := n_NoPosition_value
    BadWorking := ⟨C_BadWorking, PySem.W.mg_of X G a_BadWorking, .of e_BadWorking⟩
    i_BadWorking := ⟨_, _, fun_mk l_i_BadWorking c_i_BadWorking k_i_BadWorking, (fun_mk (x := "__init__") (qual := "BadWorking.__init__") (st := i_BadWorking) l_i_BadWorking c_i_BadWorking k_i_BadWorking).binds (fun _ _ _ _ _ _ us hl => match us, hl with | [_, _], _ => rfl), b_i_BadWorking, t_i_BadWorking⟩
    n_BadWorking_error := n_BadWorking_error
    Misfit := ⟨C_Misfit, PySem.W.mg_of X G a_Misfit, .of e_Misfit⟩
    i_Misfit := ⟨_, _, fun_mk l_i_Misfit c_i_Misfit k_i_Misfit, (fun_mk (x := "__init__") (qual := "Misfit.__init__") (st := i_Misfit) l_i_Misfit c_i_Misfit k_i_Misfit).binds (fun _ _ _ _ _ _ us hl => match us, hl with | [_, _, _], _ => rfl), b_i_Misfit, t_i_Misfit⟩
    n_Misfit_number := n_Misfit_number
    n_Misfit_word := n_Misfit_word
    BadText := ⟨C_BadText, PySem.W.mg_of X G a_BadText, .of e_BadText⟩
    i_BadText := ⟨_, _, fun_mk l_i_BadText c_i_BadText k_i_BadText, (fun_mk (x := "__init__") (qual := "BadText.__init__") (st := i_BadText) l_i_BadText c_i_BadText k_i_BadText).binds (fun _ _ _ _ _ _ us hl => match us, hl with | [_, _], _ => rfl), b_i_BadText, t_i_BadText⟩
    n_BadText_place := n_BadText_place
    TooMany := ⟨C_TooMany, PySem.W.mg_of X G a_TooMany, .of e_TooMany⟩
    i_TooMany := ⟨_, _, fun_mk l_i_TooMany c_i_TooMany k_i_TooMany, (fun_mk (x := "__init__") (qual := "TooMany.__init__") (st := i_TooMany) l_i_TooMany c_i_TooMany k_i_TooMany).binds (fun _ _ _ _ _ _ us hl => match us, hl with | [_, _], _ => rfl), b_i_TooMany, t_i_TooMany⟩
    n_TooMany_limit := n_TooMany_limit
    BadWish := ⟨C_BadWish, PySem.W.mg_of X G a_BadWish, .of e_BadWish⟩
    i_BadWish := ⟨_, _, fun_mk l_i_BadWish c_i_BadWish k_i_BadWish, (fun_mk (x := "__init__") (qual := "BadWish.__init__") (st := i_BadWish) l_i_BadWish c_i_BadWish k_i_BadWish).binds (fun _ _ _ _ _ _ us hl => match us, hl with | [_, _], _ => rfl), b_i_BadWish, t_i_BadWish⟩
    n_BadWish_word := n_BadWish_word
    BadFeatures := ⟨C_BadFeatures, PySem.W.mg_of X G a_BadFeatures, .of e_BadFeatures⟩
    i_BadFeatures := ⟨_, _, fun_mk l_i_BadFeatures c_i_BadFeatures k_i_BadFeatures, (fun_mk (x := "__init__") (qual := "BadFeatures.__init__") (st := i_BadFeatures) l_i_BadFeatures c_i_BadFeatures k_i_BadFeatures).binds (fun _ _ _ _ _ _ us hl => match us, hl with | [_, _], _ => rfl), b_i_BadFeatures, t_i_BadFeatures⟩
    n_BadFeatures_index := n_BadFeatures_index
    BadBook := ⟨C_BadBook, PySem.W.mg_of X G a_BadBook, .of e_BadBook⟩
    x_BadBook := x_BadBook
    Off := ⟨C_Off, PySem.W.mg_of X G a_Off, .of e_Off⟩
    i_Off := ⟨_, _, fun_mk l_i_Off c_i_Off k_i_Off, (fun_mk (x := "__init__") (qual := "Off.__init__") (st := i_Off) l_i_Off c_i_Off k_i_Off).binds (fun _ _ _ _ _ _ us hl => match us, hl with | [_, _], _ => rfl), b_i_Off, t_i_Off⟩
    n_Off_number := n_Off_number
    BadName := ⟨C_BadName, PySem.W.mg_of X G a_BadName, .of e_BadName⟩
    i_BadName := ⟨_, _, fun_mk l_i_BadName c_i_BadName k_i_BadName, (fun_mk (x := "__init__") (qual := "BadName.__init__") (st := i_BadName) l_i_BadName c_i_BadName k_i_BadName).binds (fun _ _ _ _ _ _ us hl => match us, hl with | [_, _], _ => rfl), b_i_BadName, t_i_BadName⟩
    n_BadName_name := n_BadName_name
    NotRule := ⟨C_NotRule, PySem.W.mg_of X G a_NotRule, .of e_NotRule⟩
    x_NotRule := x_NotRule
    Unkept := ⟨C_Unkept, PySem.W.mg_of X G a_Unkept, .of e_Unkept⟩
    i_Unkept := ⟨_, _, fun_mk l_i_Unkept c_i_Unkept k_i_Unkept, (fun_mk (x := "__init__") (qual := "Unkept.__init__") (st := i_Unkept) l_i_Unkept c_i_Unkept k_i_Unkept).binds (fun _ _ _ _ _ _ us hl => match us, hl with | [_, _], _ => rfl), b_i_Unkept, t_i_Unkept⟩
    n_Unkept_name := n_Unkept_name
    Full := ⟨C_Full, PySem.W.mg_of X G a_Full, .of e_Full⟩
    x_Full := x_Full
    Busy := ⟨C_Busy, PySem.W.mg_of X G a_Busy, .of e_Busy⟩
    x_Busy := x_Busy
    NothingToUndo := ⟨C_NothingToUndo, PySem.W.mg_of X G a_NothingToUndo, .of e_NothingToUndo⟩
    x_NothingToUndo := x_NothingToUndo
    Missing := ⟨C_Missing, PySem.W.mg_of X G a_Missing, .of e_Missing⟩
    i_Missing := ⟨_, _, fun_mk l_i_Missing c_i_Missing k_i_Missing, (fun_mk (x := "__init__") (qual := "Missing.__init__") (st := i_Missing) l_i_Missing c_i_Missing k_i_Missing).binds (fun _ _ _ _ _ _ us hl => match us, hl with | [_, _], _ => rfl), b_i_Missing, t_i_Missing⟩
    n_Missing_name := n_Missing_name
    NoScale := ⟨C_NoScale, PySem.W.mg_of X G a_NoScale, .of e_NoScale⟩
    i_NoScale := ⟨_, _, fun_mk l_i_NoScale c_i_NoScale k_i_NoScale, (fun_mk (x := "__init__") (qual := "NoScale.__init__") (st := i_NoScale) l_i_NoScale c_i_NoScale k_i_NoScale).binds (fun _ _ _ _ _ _ us hl => match us, hl with | [_, _], _ => rfl), b_i_NoScale, t_i_NoScale⟩
    n_NoScale_name := n_NoScale_name
    NoWorking := ⟨C_NoWorking, PySem.W.mg_of X G a_NoWorking, .of e_NoWorking⟩
    i_NoWorking := ⟨_, _, fun_mk l_i_NoWorking c_i_NoWorking k_i_NoWorking, (fun_mk (x := "__init__") (qual := "NoWorking.__init__") (st := i_NoWorking) l_i_NoWorking c_i_NoWorking k_i_NoWorking).binds (fun _ _ _ _ _ _ us hl => match us, hl with | [_, _], _ => rfl), b_i_NoWorking, t_i_NoWorking⟩
    n_NoWorking_name := n_NoWorking_name
    t_MAX_TURNS := t_MAX_TURNS
    c_MAX_TURNS := PySem.W.mg_of X G c_MAX_TURNS
    t_MAX_SCALES := t_MAX_SCALES
    c_MAX_SCALES := PySem.W.mg_of X G c_MAX_SCALES
    t_MAX_STEPS := t_MAX_STEPS
    c_MAX_STEPS := PySem.W.mg_of X G c_MAX_STEPS
    t_MAX_DEPTH := t_MAX_DEPTH
    c_MAX_DEPTH := PySem.W.mg_of X G c_MAX_DEPTH
    t_MAX_OPERANDS := t_MAX_OPERANDS
    c_MAX_OPERANDS := PySem.W.mg_of X G c_MAX_OPERANDS
    t_MAX_FACTOR := t_MAX_FACTOR
    c_MAX_FACTOR := PySem.W.mg_of X G c_MAX_FACTOR
    t_MAX_FEATURES := t_MAX_FEATURES
    c_MAX_FEATURES := PySem.W.mg_of X G c_MAX_FEATURES
    t_MAX_DEEDS := t_MAX_DEEDS
    c_MAX_DEEDS := PySem.W.mg_of X G c_MAX_DEEDS
    oc1 := oc1
    oc2 := oc2
theorem all_mk {P : Program} {w : World} {K : PySem.W.Frag} {mg : Str → Option Value} {fa : Addr} (hfa : mg "law" = some (.ref fa)) (T : Txt K mg) :
    ∃ fd : FuncData, (∀ (s : Shared) (u : Value), BindsTo s fd ⟨[u], []⟩ [("_law_script", u)]) ∧ ∀ base : Heap, K.In base → base.Ns mainGlobals mg → FnG P w K mg base CX0 6 fa fd ["_law_script"] (spLaw K) := by
  have e := hfa.symm.trans T.law.g
  cases e
  obtain ⟨oc, od, kV, doc, pm, an, cdv, ct, osl, e, _, _⟩ := T.law.F.ex
  refine ⟨T.law.fd, fun s u => ?_, fun base _ _ => ok_law T⟩
  rw [e]
  exact .of_eq rfl
end K5
open PySem PySem.W PyProof.Rows
set_option maxHeartbeats 0 in
theorem PySem.Challenge.cw_offscale_k55_errors_and_limits_holds : PySem.Challenge.rw_offscale_k55_errors_and_limits.Holds := by
  w_on; o_law; k_head; (case hw => w_witness2)
  k_fill
  refine Qj.walk_ofG (l := PySem.Challenge.rw_offscale_k55_errors_and_limits) (n := 63) (k := 6) (x := "_law_script") (CX := L2.CX0) (sp := K5.spLaw) rfl (by decide) rfl ⟨rfl, by decide, by decide⟩ (fun w h Y => PySem.W.kIn_of Y) ?F (fun K H a ns hl _ hS => ⟨a, ns, rfl, hS, hl, fun _ => rfl⟩) (fun _ _ _ _ h => h)
  case F =>
    intro w mg fa h KX G hmg
    refine' K5.all_mk hmg (K5.mkTxt KX G ?a__law_deck ?l__law_deck ?c__law_deck ?k__law_deck ?a__law_take ?l__law_take ?c__law_take ?k__law_take ?a__law_value ?l__law_value ?c__law_value ?k__law_value ?a__law_fields ?l__law_fields ?c__law_fields ?k__law_fields ?a__law_kinds ?l__law_kinds ?c__law_kinds ?k__law_kinds ?a__law_families ?l__law_families ?c__law_families ?k__law_families ?a_law ?l_law ?c_law ?k_law ?z_LookupError ?z_ValueError ?z_abs ?z_int ?z_isinstance ?z_len ?z_list ?z_range ?z_repr ?z_str ?a_SlideError ?e_SlideError ?x_SlideError ?a_NoFraction ?e_NoFraction ?x_NoFraction ?a_BadForm ?e_BadForm ?x_BadForm ?a_BadRule ?e_BadRule ?b_i_BadRule ?l_i_BadRule ?c_i_BadRule ?k_i_BadRule ?t_i_BadRule ?n_BadRule_word ?a_NoStretch ?e_NoStretch ?b_i_NoStretch ?l_i_NoStretch ?c_i_NoStretch ?k_i_NoStretch ?t_i_NoStretch ?n_NoStretch_stretch ?a_NoMantissa ?e_NoMantissa ?b_i_NoMantissa ?l_i_NoMantissa ?c_i_NoMantissa ?k_i_NoMantissa ?t_i_NoMantissa ?n_NoMantissa_value ?a_NoPosition ?e_NoPosition ?b_i_NoPosition ?l_i_NoPosition ?c_i_NoPosition ?k_i_NoPosition ?t_i_NoPosition ?n_NoPosition_value ?a_BadWorking ?e_BadWorking ?b_i_BadWorking ?l_i_BadWorking ?c_i_BadWorking ?k_i_BadWorking ?t_i_BadWorking ?n_BadWorking_error ?a_Misfit ?e_Misfit ?b_i_Misfit ?l_i_Misfit ?c_i_Misfit ?k_i_Misfit ?t_i_Misfit ?n_Misfit_number ?n_Misfit_word ?a_BadText ?e_BadText ?b_i_BadText ?l_i_BadText ?c_i_BadText ?k_i_BadText ?t_i_BadText ?n_BadText_place ?a_TooMany ?e_TooMany ?b_i_TooMany ?l_i_TooMany ?c_i_TooMany ?k_i_TooMany ?t_i_TooMany ?n_TooMany_limit ?a_BadWish ?e_BadWish ?b_i_BadWish ?l_i_BadWish ?c_i_BadWish ?k_i_BadWish ?t_i_BadWish ?n_BadWish_word ?a_BadFeatures ?e_BadFeatures ?b_i_BadFeatures ?l_i_BadFeatures ?c_i_BadFeatures ?k_i_BadFeatures ?t_i_BadFeatures ?n_BadFeatures_index ?a_BadBook ?e_BadBook ?x_BadBook ?a_Off ?e_Off ?b_i_Off ?l_i_Off ?c_i_Off ?k_i_Off ?t_i_Off ?n_Off_number ?a_BadName ?e_BadName ?b_i_BadName ?l_i_BadName ?c_i_BadName ?k_i_BadName ?t_i_BadName ?n_BadName_name ?a_NotRule ?e_NotRule ?x_NotRule ?a_Unkept ?e_Unkept ?b_i_Unkept ?l_i_Unkept ?c_i_Unkept ?k_i_Unkept ?t_i_Unkept ?n_Unkept_name ?a_Full ?e_Full ?x_Full ?a_Busy ?e_Busy ?x_Busy ?a_NothingToUndo ?e_NothingToUndo ?x_NothingToUndo ?a_Missing ?e_Missing ?b_i_Missing ?l_i_Missing ?c_i_Missing ?k_i_Missing ?t_i_Missing ?n_Missing_name ?a_NoScale ?e_NoScale ?b_i_NoScale ?l_i_NoScale ?c_i_NoScale ?k_i_NoScale ?t_i_NoScale ?n_NoScale_name ?a_NoWorking ?e_NoWorking ?b_i_NoWorking ?l_i_NoWorking ?c_i_NoWorking ?k_i_NoWorking ?t_i_NoWorking ?n_NoWorking_name ?c_MAX_TURNS ?c_MAX_SCALES ?c_MAX_STEPS ?c_MAX_DEPTH ?c_MAX_OPERANDS ?c_MAX_FACTOR ?c_MAX_FEATURES ?c_MAX_DEEDS ?oc1 ?oc2)
    (case a__law_deck => k_is)
    (case l__law_deck => k_is)
    (case c__law_deck => k_is)
    (case k__law_deck => k_is)
    (case a__law_take => k_is)
    (case l__law_take => k_is)
    (case c__law_take => k_is)
    (case k__law_take => k_is)
    (case a__law_value => k_is)
    (case l__law_value => k_is)
    (case c__law_value => k_is)
    (case k__law_value => k_is)
    (case a__law_fields => k_is)
    (case l__law_fields => k_is)
    (case c__law_fields => k_is)
    (case k__law_fields => k_is)
    (case a__law_kinds => k_is)
    (case l__law_kinds => k_is)
    (case c__law_kinds => k_is)
    (case k__law_kinds => k_is)
    (case a__law_families => k_is)
    (case l__law_families => k_is)
    (case c__law_families => k_is)
    (case k__law_families => k_is)
    (case a_law => k_is)
    (case l_law => k_is)
    (case c_law => k_is)
    (case k_law => k_is)
    (case z_LookupError => k_is)
    (case z_ValueError => k_is)
    (case z_abs => k_is)
    (case z_int => k_is)
    (case z_isinstance => k_is)
    (case z_len => k_is)
    (case z_list => k_is)
    (case z_range => k_is)
    (case z_repr => k_is)
    (case z_str => k_is)
    (case a_SlideError => k_is)
    (case e_SlideError => kernel_rfl)
    (case x_SlideError => first | k_exc | k_is)
    (case a_NoFraction => k_is)
    (case e_NoFraction => kernel_rfl)
    (case x_NoFraction => first | k_exc | k_is)
    (case a_BadForm => k_is)
    (case e_BadForm => kernel_rfl)
    (case x_BadForm => first | k_exc | k_is)
    (case a_BadRule => k_is)
    (case e_BadRule => kernel_rfl)
    (case b_i_BadRule => k_is)
    (case l_i_BadRule => k_is)
    (case c_i_BadRule => k_is)
    (case k_i_BadRule => k_is)
    (case t_i_BadRule => k_is)
    (case n_BadRule_word => k_is)
    (case a_NoStretch => k_is)
    (case e_NoStretch => kernel_rfl)
    (case b_i_NoStretch => k_is)
    (case l_i_NoStretch => k_is)
    (case c_i_NoStretch => k_is)
    (case k_i_NoStretch => k_is)
    (case t_i_NoStretch => k_is)
    (case n_NoStretch_stretch => k_is)
    (case a_NoMantissa => k_is)
    (case e_NoMantissa => kernel_rfl)
    (case b_i_NoMantissa => k_is)
    (case l_i_NoMantissa => k_is)
    (case c_i_NoMantissa => k_is)
    (case k_i_NoMantissa => k_is)
    (case t_i_NoMantissa => k_is)
    (case n_NoMantissa_value => k_is)
    (case a_NoPosition => k_is)
    (case e_NoPosition => kernel_rfl)
    (case b_i_NoPosition => k_is)
    (case l_i_NoPosition => k_is)
    (case c_i_NoPosition => k_is)
    (case k_i_NoPosition => k_is)
    (case t_i_NoPosition => k_is)
    (case n_NoPosition_value => k_is)
    (case a_BadWorking => k_is)
    (case e_BadWorking => kernel_rfl)
    (case b_i_BadWorking => k_is)
    (case l_i_BadWorking => k_is)
    (case c_i_BadWorking => k_is)
    (case k_i_BadWorking => k_is)
    (case t_i_BadWorking => k_is)
    (case n_BadWorking_error => k_is)
    (case a_Misfit => k_is)
    (case e_Misfit => kernel_rfl)
    (case b_i_Misfit => k_is)
    (case l_i_Misfit => k_is)
    (case c_i_Misfit => k_is)
    (case k_i_Misfit => k_is)
    (case t_i_Misfit => k_is)
    (case n_Misfit_number => k_is)
    (case n_Misfit_word => k_is)
    (case a_BadText => k_is)
    (case e_BadText => kernel_rfl)
    (case b_i_BadText => k_is)
    (case l_i_BadText => k_is)
    (case c_i_BadText => k_is)
    (case k_i_BadText => k_is)
    (case t_i_BadText => k_is)
    (case n_BadText_place => k_is)
    (case a_TooMany => k_is)
    (case e_TooMany => kernel_rfl)
    (case b_i_TooMany => k_is)
    (case l_i_TooMany => k_is)
    (case c_i_TooMany => k_is)
    (case k_i_TooMany => k_is)
    (case t_i_TooMany => k_is)
    (case n_TooMany_limit => k_is)
    (case a_BadWish => k_is)
    (case e_BadWish => kernel_rfl)
    (case b_i_BadWish => k_is)
    (case l_i_BadWish => k_is)
    (case c_i_BadWish => k_is)
    (case k_i_BadWish => k_is)
    (case t_i_BadWish => k_is)
    (case n_BadWish_word => k_is)
    (case a_BadFeatures => k_is)
    (case e_BadFeatures => kernel_rfl)
    (case b_i_BadFeatures => k_is)
    (case l_i_BadFeatures => k_is)
    (case c_i_BadFeatures => k_is)
    (case k_i_BadFeatures => k_is)
    (case t_i_BadFeatures => k_is)
    (case n_BadFeatures_index => k_is)
    (case a_BadBook => k_is)
    (case e_BadBook => kernel_rfl)
    (case x_BadBook => first | k_exc | k_is)
    (case a_Off => k_is)
    (case e_Off => kernel_rfl)
    (case b_i_Off => k_is)
    (case l_i_Off => k_is)
    (case c_i_Off => k_is)
    (case k_i_Off => k_is)
    (case t_i_Off => k_is)
    (case n_Off_number => k_is)
    (case a_BadName => k_is)
    (case e_BadName => kernel_rfl)
    (case b_i_BadName => k_is)
    (case l_i_BadName => k_is)
    (case c_i_BadName => k_is)
    (case k_i_BadName => k_is)
    (case t_i_BadName => k_is)
    (case n_BadName_name => k_is)
    (case a_NotRule => k_is)
    (case e_NotRule => kernel_rfl)
    (case x_NotRule => first | k_exc | k_is)
    (case a_Unkept => k_is)
    (case e_Unkept => kernel_rfl)
    (case b_i_Unkept => k_is)
    (case l_i_Unkept => k_is)
    (case c_i_Unkept => k_is)
    (case k_i_Unkept => k_is)
    (case t_i_Unkept => k_is)
    (case n_Unkept_name => k_is)
    (case a_Full => k_is)
    (case e_Full => kernel_rfl)
    (case x_Full => first | k_exc | k_is)
    (case a_Busy => k_is)
    (case e_Busy => kernel_rfl)
    (case x_Busy => first | k_exc | k_is)
    (case a_NothingToUndo => k_is)
    (case e_NothingToUndo => kernel_rfl)
    (case x_NothingToUndo => first | k_exc | k_is)
    (case a_Missing => k_is)
    (case e_Missing => kernel_rfl)
    (case b_i_Missing => k_is)
    (case l_i_Missing => k_is)
    (case c_i_Missing => k_is)
    (case k_i_Missing => k_is)
    (case t_i_Missing => k_is)
    (case n_Missing_name => k_is)
    (case a_NoScale => k_is)
    (case e_NoScale => kernel_rfl)
    (case b_i_NoScale => k_is)
    (case l_i_NoScale => k_is)
    (case c_i_NoScale => k_is)
    (case k_i_NoScale => k_is)
    (case t_i_NoScale => k_is)
    (case n_NoScale_name => k_is)
    (case a_NoWorking => k_is)
    (case e_NoWorking => kernel_rfl)
    (case b_i_NoWorking => k_is)
    (case l_i_NoWorking => k_is)
    (case c_i_NoWorking => k_is)
    (case k_i_NoWorking => k_is)
    (case t_i_NoWorking => k_is)
    (case n_NoWorking_name => k_is)
    (case c_MAX_TURNS => k_is)
    (case c_MAX_SCALES => k_is)
    (case c_MAX_STEPS => k_is)
    (case c_MAX_DEPTH => k_is)
    (case c_MAX_OPERANDS => k_is)
    (case c_MAX_FACTOR => k_is)
    (case c_MAX_FEATURES => k_is)
    (case c_MAX_DEEDS => k_is)
    (case oc1 => k_is)
    (case oc2 => k_is)
