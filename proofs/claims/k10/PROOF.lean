import PyProof.Rows.All
import Wide.All
import OpenK.AllK
import Wide.FinOn
import HandS.ForSpec
import HandS.ForMost
import HandS.Evl
import HandS.Wide
import HandS.Gcd
import HandS.Small
import HandS.TryOnly
import HandS.IsInst
import HandS.EndBits
import HandS.Style
import HandS.Star
import HandS.Defaults
import HandS.RaiseMore
import PyProof.ReprRoads
import PyProof.CallFns
import PyProof.ExcBaseAll.LookupError
import KE.KExcInit
import KE.KExcIs
import HandS.ExcInit
import HandS.ExcValue
import HandS.ExcSuper
import HandS.Walk
import HandS.Comp
import HandS.SetBool
import HandS.SetKeys
import HandS.Set
import HandS.Strs
import PyProof.Rows.SortShellAny
import HandS.Property
import HandS.ExcField
import HandS.ClsMeth
import HandS.CallLocal
import HandS.TupAny
import HandS.Conv
import HandS.TryMany
import HandS.FStr
import HandS.TupSets
import HandS.Deep
import HandS.SortRule
import KE.KSortTupAny
import KE.KCallOwn
import KE.KOpsOwn
import HandS.More
import HandS.OwnEq
import KE.KDictPairs
import HandS.ListItems
import HandS.Zip
import PySem.Challenge.RW_offscale_k10_papers_judged
set_option Elab.async false
set_option linter.all false
set_option maxRecDepth 100000
set_option maxHeartbeats 4000000
namespace Qj
open PySem PySem.Spec PyProof.Rows L2

/-! ### promises of defs that are called where no guard stands on the stack -/
structure FnG (P : Program) (w : World) (K : PySem.W.Frag) (mg : Str → Option Value) (base : Heap) (CX : CXT) (k : Nat) (f : Addr) (fd : FuncData) (ps : List Str) (sp : Sp) : Prop where
  len : ∀ as G Q E, sp as G Q E → as.length = ps.length
  go : ∀ (A : Around) (fr : List Env) (s : Shared) (H : Hp) (args : Args) (us : List Value) (as : List V) (Q : VK) (E : XK), Room k A → A.guards = some [] →
    Env0 P w K mg base A fr s H → BindsTo s fd args (ps.zip us) → Vals as us → sp as H Q E → codeAny (model P w) A (.call (.ref f) args) (CR CX fr P w H s Q E) s
section
variable {P : Program} {w : World} {K : PySem.W.Frag} {mg : Str → Option Value} {base : Heap} {CX : CXT}
theorem FnG.of {k : Nat} {f : Addr} {fd : FuncData} {ps : List Str} {sp : Sp} (F : FnOk P w K mg base CX k f fd ps sp) : FnG P w K mg base CX k f fd ps sp :=
  ⟨F.len, fun A fr s H args us as Q E r _ e b v h => F.run A fr s H args us as Q E r e b v h⟩
theorem FnG.up {j k : Nat} {f : Addr} {fd : FuncData} {ps : List Str} {sp : Sp} (F : FnG P w K mg base CX j f fd ps sp) (h : j ≤ k) : FnG P w K mg base CX k f fd ps sp :=
  ⟨F.len, fun A fr s H args us as Q E r g e b v z => F.go A fr s H args us as Q E (r.mono h) g e b v z⟩
theorem fnG_of {k : Nat} {f : Addr} {nm qual : Str} {prm : Arguments} {bd : List Stmt} {sc : Scope} {dV kV doc pm cdv ct oc : Value} {an od : Option Addr} {osl : Array (Option Value)} {N ps : List Str} {sp : Sp}
    (lk : K.lookup f = some ⟨oc, od, .func (PySem.W.fnOf nm qual prm bd sc dV kV doc pm an cdv ct), osl⟩) (cc : PySem.W.codeIn K cdv qual = true) (S : FnScope N ps sc) (len : ∀ as G Q E, sp as G Q E → as.length = ps.length)
    (hb : ∀ (A : Around) (fr : List Env) (s : Shared) (H : Hp) (as : List V) (Q : VK) (E : XK), Room k (A.deeper (envOfC qual sc s.heap.objs.size f cdv)) → A.guards = some [] → sp as H Q E →
      ∃ t, PSs (cxOf CX P w K mg base N qual sc f cdv A fr s H E) bd t ∧ t { nx := fun _ G => Q .non G, rt := Q } (start N as) H) :
    FnG P w K mg base CX (k + 1) f (PySem.W.fnOf nm qual prm bd sc dV kV doc pm an cdv ct) ps sp := by
  constructor
  · exact len
  · intro A fr s H args us as Q E rm gd e0 bt va hsp
    have la := len _ _ _ _ hsp
    have KS : K.In s.heap := e0.mod.kin.keeps (fun b o z => (e0.bs b o z).1)
    have NL : s.heap.NoLimit := e0.mod.nolimit.keeps (fun b o z => (e0.bs b o z).1)
    have kinds : ∀ q ∈ ps.zip us, sc.names.lookup q.1 = some .local ∨ (sc.names.lookup q.1 = some .cell ∧ ((cellsFrom (s.heap.objs.size + 1) sc.names []).lookup q.1).isSome = true) := by
      intro q hq
      obtain ⟨n, v⟩ := q
      have hn := (List.of_mem_zip hq).1
      cases S.par n hn with
      | inl z => exact Or.inl z
      | inr z => exact Or.inr ⟨z, PySem.W.cellsFrom_some _ _ _ (Or.inl z)⟩
    refine codeAny_call_function rm.depth (KS _ _ lk) rfl S.co S.gen rfl (PySem.W.codeRec_of KS cc) (bt _ _ _ _ ?_)
    refine wpAny_newFunctionEnv_cells S.kind kinds (fun ev he s1 x => ?_)
    cases he
    refine ⟨NL.keeps x.toInCall.keep, codeAny_func ?_⟩
    obtain ⟨t, pt, ht⟩ := hb A fr s H as Q E (rm.deeper _) gd hsp
    have I0 : Inv (cxOf CX P w K mg base N qual sc f cdv A fr s H E) [] (start N as) H s1 := inv_start S rm.hd e0 la va x
    have back : ∀ {τ : L2.St} {G : Hp} {v : V} {u : Value} {s2 : Shared}, Inv (cxOf CX P w K mg base N qual sc f cdv A fr s H E) [] τ G s2 → RelV v u → Q v G → CE fr P w H s Q u s2 := by
      intro τ G v u s2 J rv q
      exact ⟨v, G, J.os, J.bare, J.base, J.hok, rv, q⟩
    refine wpAny_mono (pt.run [] s1 (start N as) H _ I0 ht) (fun fl s2 hs => ?_) (fun e s2 hs => hs)
    cases fl with
    | ret u =>
      obtain ⟨v, τ, G, J, rv, q⟩ := hs
      exact back J rv q
    | next =>
      obtain ⟨τ, G, J, q⟩ := hs
      exact back (v := V.non) (u := Value.none) J rfl q
    | brk =>
      obtain ⟨_, _, _, q⟩ := hs
      exact q.elim
    | cont =>
      obtain ⟨_, _, _, q⟩ := hs
      exact q.elim
theorem okG {x qual : Str} {st : Stmt} {f : Addr} {fd : FuncData} {N ps : List Str} {k : Nat} {sp : Sp} (F : Fun K x qual st f fd) (S : FnScope N ps (defScope st)) (len : ∀ as G Q E, sp as G Q E → as.length = ps.length)
    (hb : ∀ (cdv : Value) (A : Around) (fr : List Env) (s : Shared) (H : Hp) (as : List V) (Q : VK) (E : XK), Room k (A.deeper (envOfC qual (defScope st) s.heap.objs.size f cdv)) → A.guards = some [] → sp as H Q E →
      ∃ t, PSs (cxOf CX P w K mg base N qual (defScope st) f cdv A fr s H E) (defBody st) t ∧ t { nx := fun _ G => Q .non G, rt := Q } (start N as) H) : FnG P w K mg base CX (k + 1) f fd ps sp := by
  obtain ⟨oc, od, kV, doc, pm, an, cdv, ct, osl, e, lk, cc⟩ := F.ex
  subst e
  exact fnG_of lk cc S len (fun A fr s H as Q E r g h => hb cdv A fr s H as Q E r g h)
end
section
variable {X : Cx} {CX : CXT} {k : Nat} {f : Addr} {fd : FuncData} {ps : List Str} {sp : Sp} {dvs : List V} {ds : List Value} {E : XK} {x : Str} {p pos : Pos} {e : Expr} {es : List Expr} {t : TA}
theorem run_g {pins : List (Addr × Obj)} {σ : L2.St} {H : Hp} {s : Shared} {Q : VK} {us : List Value} {as : List V} (F : FnG X.prog X.w X.K X.mg X.base CX k f fd ps sp) (rm : Room k X.A) (gd : X.A.guards = some []) (hb : Binds X.K fd ps ds)
    (hd : Vals dvs ds) (hx : Passes CX X E) (I : Inv X pins σ H s) (r : Vals as us) (h : sp (as ++ dvs) H Q E) : wpAny (model X.prog X.w) X.A (call (.ref f) us) (EP X pins σ Q) X.xe s := by
  have both : Vals (as ++ dvs) (us ++ ds) := r.append hd
  have hl : (us ++ ds).length = ps.length := both.length.symm.trans (F.len _ _ _ _ h)
  have c := F.go X.A X.stack s H ⟨us, []⟩ (us ++ ds) (as ++ dvs) Q E rm gd I.env0 (hb s us I.kIn hl) both h
  refine wpAny_call (codeAny_mono c (fun r2 s2 hq => ?_))
  cases r2 with
  | error e2 => exact hx pins σ H s e2 s2 I hq
  | ok fl =>
    cases fl with
    | ret u => exact I.after hq
    | next => exact hq.elim
    | brk => exact hq.elim
    | cont => exact hq.elim
theorem pe_callG (F : FnG X.prog X.w X.K X.mg X.base CX k f fd ps sp) (rm : Room k X.A) (gd : X.A.guards = some []) (hg : Gl X x) (hm : X.mg x = some (.ref f)) (kp : PySem.W.keepIn X.K (.ref f) = true) (hb : Binds X.K fd ps ds) (hd : Vals dvs ds) (hx : Passes CX X E)
    (ha : PA X (e :: es) t) (h1 : (x == ("__debug__" : Str)) = false := by decide) (h2 : starEach (e :: es) X.env = (false, eval e X.env) :: starEach es X.env := by rfl) (h3 : (backTo pos (starEach es X.env)).any (·.1) = false := by rfl) :
    PE X (.Call (.Name x p) (e :: es) [] pos) (tCall sp dvs E t) := by
  constructor
  intro pins s σ H Q I h
  refine wpAny_Call_Name_kw (ld_glob I hg hm ?_ h1)
  exact PySem.W.callWith_K (h₀ := X.base) I.ok.mod.kin kp (thn (ha.run pos pins s σ H _ I h) (fun us s1 z => by
    obtain ⟨vs, H1, I1, r, q⟩ := z
    exact ⟨I1.kIn, run_g F rm gd hb hd hx I1 r q⟩)) h2 h3

/-- C(), C an own exception class without own __init__ -/
theorem pmk_own0 {C : Addr} {bmB : List Value} {B newId initId : String} (F : ExcBaseFacts B newId initId bmB) (q : PySem.W.excIn X.K C bmB newId = true) (gC : X.mg x = some (.ref C))
    (kC : PySem.W.keepIn X.K (.ref C) = true) (r : Raises X (.ref C)) (hg : Gl X x) (h1 : (x == ("__debug__" : Str)) = false := by decide) :
    PMk X (.Call (.Name x p) [] [] pos) (fun _ H Q => Q (.ref C) none H) := by
  intro pins s σ H Q I h
  refine wpAny_Call_Name_kw (ld_glob I hg gC ?_ h1)
  refine PySem.W.callWith_K0 I.kIn kC ?_
  obtain ⟨bm, N, nm, qn, bs, hdct, sn, sub, ab, col, dd, k0, k1, k2, k3, k5, mN, hC, hN, hni, T⟩ := exc_obj I.kIn q
  show wpAny _ _ (call (.ref C) []) _ _ _
  refine wpAny_call_exc_subT F T hC hN hni (fun h' e2 hm => ?_) (Nat.zero_le _)
  exact mk_of I hm r h (I.hok.gone hm.new)

end

/-! ### repr of data -/
/-- small enough data: n its weight, m its depth -/
structure Okd (d : PyData) (n m : Nat) : Prop where
  sh : d.showable = true
  nd : d.hasDict = false
  lv : d.leavesShort 1001 = true
  wt : d.weight ≤ n
  dp : d.depth ≤ m
structure OkA (ds : List PyData) (n m : Nat) : Prop where
  sh : PyData.showableAll ds = true
  nd : PyData.hasDictAll ds = false
  lv : PyData.leavesShortAll 1001 ds = true
  wt : PyData.weightAll ds ≤ n
  dp : PyData.depthAll ds ≤ m
theorem okd_int {i : Int} {k : Nat} (h : i.natAbs < 2 ^ k) (h0 : 0 < k) (hk : k ≤ 1000) : Okd (.int i) k 0 := by
  have hl : i.natAbs.log2 < k := PySem.Flt.log2_lt_of h0 h
  refine ⟨?_, ?_, ?_, ?_, ?_⟩
  · simp only [PyData.showable, decide_eq_true_eq]
    omega
  · simp only [PyData.hasDict]
  · simp only [PyData.leavesShort, decide_eq_true_eq]
    show (Str.ofString (toString i)).length ≤ 1001
    have e := int_text_length_le (a := i) (k := 1000) (by decide) (by omega)
    rw [PySem.ofString_length]
    exact e
  · simp only [PyData.weight]
    split
    · omega
    · omega
  · simp only [PyData.depth]
    omega
theorem okd_bl {b : Bool} : Okd (.bool b) 0 0 := by
  refine ⟨?_, ?_, ?_, ?_, ?_⟩
  · simp only [PyData.showable]
  · simp only [PyData.hasDict]
  · simp only [PyData.leavesShort]
  · simp only [PyData.weight]; omega
  · simp only [PyData.depth]; omega
theorem okd_non : Okd .none 0 0 := by
  refine ⟨?_, ?_, ?_, ?_, ?_⟩
  · simp only [PyData.showable]
  · simp only [PyData.hasDict]
  · simp only [PyData.leavesShort]
  · simp only [PyData.weight]; omega
  · simp only [PyData.depth]; omega
theorem oka_nil : OkA [] 0 0 := by
  refine ⟨?_, ?_, ?_, ?_, ?_⟩
  · simp only [PyData.showableAll]
  · simp only [PyData.hasDictAll]
  · simp only [PyData.leavesShortAll]
  · simp only [PyData.weightAll]; omega
  · simp only [PyData.depthAll]; omega
theorem oka_cons {d : PyData} {ds : List PyData} {a b n m : Nat} (h : Okd d a b) (t : OkA ds n m) : OkA (d :: ds) (a + 1 + n) (max b m) := by
  refine ⟨?_, ?_, ?_, ?_, ?_⟩
  · simp only [PyData.showableAll, h.sh, t.sh, Bool.and_self]
  · simp only [PyData.hasDictAll, h.nd, t.nd, Bool.or_self]
  · simp only [PyData.leavesShortAll, h.lv, t.lv, Bool.and_self]
  · simp only [PyData.weightAll]
    have := h.wt
    have := t.wt
    omega
  · simp only [PyData.depthAll]
    have := h.dp
    have := t.dp
    omega
theorem okd_tup {ds : List PyData} {n m : Nat} (t : OkA ds n m) : Okd (.tuple ds) n (m + 1) := by
  refine ⟨?_, ?_, ?_, ?_, ?_⟩
  · simp only [PyData.showable, t.sh]
  · simp only [PyData.hasDict, t.nd]
  · simp only [PyData.leavesShort, t.lv]
  · simp only [PyData.weight]
    exact t.wt
  · simp only [PyData.depth]
    have := t.dp
    omega
theorem okd_lst {ds : List PyData} {n m : Nat} (t : OkA ds n m) : Okd (.list ds) n (m + 1) := by
  refine ⟨?_, ?_, ?_, ?_, ?_⟩
  · simp only [PyData.showable, t.sh]
  · simp only [PyData.hasDict, t.nd]
  · simp only [PyData.leavesShort, t.lv]
  · simp only [PyData.weight]
    exact t.wt
  · simp only [PyData.depth]
    have := t.dp
    omega
theorem Okd.size {d : PyData} {n m : Nat} (h : Okd d n m) (hn : n ≤ 16000) : d.shown.length ≤ sizeLine := by
  have e := PyData.shown_le 1001 (by decide) d h.lv
  have := h.wt
  rw [sizeLine_eq]
  omega
def rRepr (K : PySem.W.Frag) : List V → Hp → VK → Prop := fun xs H Q => ∃ (v : V) (d : PyData) (n m : Nat), xs = [v] ∧ Dp K H v d ∧ Okd d n m ∧ n ≤ 16000 ∧ m ≤ 60 ∧ Q (.str d.shown) H
section
variable {X : Cx}
theorem cr_repr (hg : X.A.guards = some []) (hu : X.A.units + 64 < cLine) : CallR X (.builtin "repr") (rRepr X.K) := by
  intro pins s σ H xs us Q I r h
  obtain ⟨v, d, n, m, e, hd, ok, hn, hm, q⟩ := h
  subst e
  obtain ⟨u, hus, ru⟩ := vals1 r
  subst hus
  have sz := ok.size hn
  obtain ⟨as, rd⟩ := Dp.reads I d v u hd ru
  have hd2 := ok.dp
  cases rd with
  | none => exact PySem.P.repr_of_none ⟨.str _, H, I.tok _, ⟨_, rfl⟩, q⟩
  | bool b =>
    refine PySem.P.repr_of_bool ⟨.str _, H, I.tok _, ⟨_, rfl⟩, ?_⟩
    exact q
  | int i t =>
    have hs := ok.sh
    simp only [PyData.showable, decide_eq_true_eq] at hs
    exact PySem.P.repr_of_int hs ⟨.str _, H, I.tok _, ⟨_, rfl⟩, q⟩
  | str x t => exact PySem.P.repr_of_str ⟨.str _, H, I.tok _, ⟨_, rfl⟩, q⟩ sz
  | list a b c e =>
    exact repr_of_reads' (.list a b c e) ok.sh (fun z => by rw [ok.nd] at z; cases z) hg (by omega) (fun _ _ z => z) (fun h' u2 tk k => ⟨.str _, H, I.kept k, ⟨_, rfl⟩, q⟩) sz
  | tuple a b c e =>
    exact repr_of_reads' (.tuple a b c e) ok.sh (fun z => by rw [ok.nd] at z; cases z) hg (by omega) (fun _ _ z => z) (fun h' u2 tk k => ⟨.str _, H, I.kept k, ⟨_, rfl⟩, q⟩) sz
  | dict a b c e f =>
    have z := ok.nd
    simp only [PyData.hasDict] at z
    cases z
end
end Qj
namespace Qj
open PySem PySem.Spec PyProof.Rows L2
/-! ### a def of the text, where it stands -/
structure Def (K : PySem.W.Frag) (mg : Str → Option Value) (x : Str) (st : Stmt) (ps : List Str) where
  f : Addr
  fd : FuncData
  F : Fun K x x st f fd
  g : mg x = some (.ref f)
  b : Binds K fd ps []
def def_mk {K : PySem.W.Frag} {mg : Str → Option Value} {h : Heap} {x : Str} {st : Stmt} {ps : List Str} (X : K.In h) (G : h.Ns mainGlobals mg) {f : Addr} {oc : Value} {od an : Option Addr} {osl : Array (Option Value)} {kV dc pm cd ct : Value}
    (a : PySem.W.nsIn K mainGlobals x = some (some (.ref f))) (l : K.lookup f = some ⟨oc, od, .func (PySem.W.fnOf x x (defArgs st) (defBody st) (defScope st) .none kV dc pm an cd ct), osl⟩) (c : PySem.W.codeIn K cd x = true) (k : PySem.W.keepIn K (.ref f) = true)
    (hb : ∀ (kV doc pm : Value) (an : Option Addr) (cdv ct : Value) (us : List Value), us.length = ps.length → bindArgs (PySem.W.fnOf x x (defArgs st) (defBody st) (defScope st) .none kV doc pm an cdv ct) ⟨us, []⟩ = pure (ps.zip us)) : Def K mg x st ps where
  f := f
  fd := PySem.W.fnOf x x (defArgs st) (defBody st) (defScope st) .none kV dc pm an cd ct
  F := fun_mk l c k
  g := PySem.W.mg_of X G a
  b := (fun_mk (x := x) (qual := x) (st := st) l c k).binds hb

/-! ### heaps that grow -/
theorem ex_new {H : Hp} {p : Addr} {o : HO} (h : H p = none) : Evl.Ex H (upd H p o) := Evl.Ex.new h
/-- all but D stands -/
def Bu (D : Addr) (H H' : Hp) : Prop := ∀ a o, a ≠ D → H a = some o → H' a = some o
theorem Bu.refl (D : Addr) (H : Hp) : Bu D H H := fun _ _ _ h => h
theorem Bu.trans {D : Addr} {H H1 H2 : Hp} (a : Bu D H H1) (b : Bu D H1 H2) : Bu D H H2 := fun x o n h => b x o n (a x o n h)
theorem Bu.of {D : Addr} {H H' : Hp} (e : Evl.Ex H H') : Bu D H H' := fun a o _ h => e a o h
theorem Bu.upd {D : Addr} {H : Hp} {o : HO} : Bu D H (upd H D o) := fun a u n h => by
  rw [upd_ne n]
  exact h
theorem Bu.new {D p : Addr} {H : Hp} {o : HO} (h : H p = none) : Bu D H (L2.upd H p o) := Bu.of (ex_new h)
/-- the drawn deck stands at D -/
def DeckAt (H : Hp) (D : Addr) : Prop := ∃ g m c : Int, H D = some (.lst [.int g, .int m, .int c]) ∧ -(2 ^ 62) < m ∧ m < 2 ^ 62
theorem DeckAt.ex {H H' : Hp} {D : Addr} (d : DeckAt H D) (e : Evl.Ex H H') : DeckAt H' D := by
  obtain ⟨g, m, c, h, b⟩ := d
  exact ⟨g, m, c, e _ _ h, b⟩
theorem DeckAt.ne {H : Hp} {D p : Addr} (d : DeckAt H D) (h : H p = none) : p ≠ D := by
  obtain ⟨g, m, c, e, _⟩ := d
  exact (ne_of_none e h).symm

/-! ### operators -/
def CDivA (_ j : Int) : Prop := j ≠ 0 ∧ j.natAbs.log2 < 9000
section
variable {X : Cx}
theorem op_fdivA : OpR X (binaryOp .FloorDiv) (rI CDivA fun i j => .int (i.fdiv j)) := opI fun i j _ _ _ _ _ hc q => floordiv_int hc.1 q (.inl (PyProof.noPylong_of_log2 hc.2))
end
/-! ### the promises that all laws' helpers share -/
theorem sz4 {n : Nat} (h : Nat.ble n 1000 = true := by rfl) : n ≤ sizeLine := Nat.le_trans (Nat.le_of_ble_eq_true h) (by decide)
def spTake : Sp := fun vs H Q _ => ∃ (D : Addr) (lim : Int), vs = [.ref D, .int lim] ∧ DeckAt H D ∧ 0 < lim ∧ lim < 2 ^ 63 ∧ ∀ (v : Int) (H' : Hp), 0 ≤ v → v < lim → Bu D H H' → DeckAt H' D → Q (.int v) H'
def spDeck (K : PySem.W.Frag) : Sp := fun vs H Q _ => ∃ (a : Addr) (ns : List Int), vs = [.ref a] ∧ SqL K H a (ns.map V.int) ∧ ns.length ≤ 63 ∧ ∀ (D : Addr) (H' : Hp), H D = none → Evl.Ex H H' → DeckAt H' D → Q (.ref D) H'
/-- lowest terms, the bottom above nought -/
def fr (t b : Int) : Int × Int := ((if 0 < b then 1 else -1) * t / ((Nat.gcd t.natAbs b.natAbs : Nat) : Int), (if 0 < b then 1 else -1) * b / ((Nat.gcd t.natAbs b.natAbs : Nat) : Int))
def frV (x : Int × Int) : HO := .tup [.int x.1, .int x.2]
def spFrac : Sp := fun vs H Q _ => ∃ t b : Int, vs = [.int t, .int b] ∧ b ≠ 0 ∧ t.natAbs < 2 ^ 8000 ∧ b.natAbs < 2 ^ 8000 ∧ ∀ p H', H p = none → Evl.Ex H H' → H' p = some (frV (fr t b)) → Q (.ref p) H'
def WF (t b : Int) (H : Hp) (m : Nat) (σ : L2.St) (H' : Hp) : Prop := ∃ x y : Int, σ = [some (.int t), some (.int b), some (.int x), some (.int y), none] ∧ 0 ≤ x ∧ 0 ≤ y ∧ Nat.gcd x.natAbs y.natAbs = Nat.gcd t.natAbs b.natAbs ∧ m = y.natAbs ∧ H' = H
theorem gcd_pos (t : Int) {b : Int} (h : b ≠ 0) : 0 < Nat.gcd t.natAbs b.natAbs := Nat.gcd_pos_of_pos_right _ (by omega)
theorem gcd_lt (t : Int) {b : Int} {k : Nat} (h : b ≠ 0) (hb : b.natAbs < k) : Nat.gcd t.natAbs b.natAbs < k := Nat.lt_of_le_of_lt (Nat.gcd_le_right _ (by omega)) hb
theorem gcd_abs (t b : Int) : Nat.gcd (if t < 0 then -t else t).natAbs (if b < 0 then -b else b).natAbs = Nat.gcd t.natAbs b.natAbs := by
  have e : ∀ x : Int, (if x < 0 then -x else x).natAbs = x.natAbs := fun x => by split <;> omega
  rw [e, e]
theorem gcd_step {x y : Int} (hx : 0 ≤ x) (hy : 0 < y) : Nat.gcd y.natAbs (x % y).natAbs = Nat.gcd x.natAbs y.natAbs := by
  obtain ⟨a, rfl⟩ := Int.eq_ofNat_of_zero_le hx
  obtain ⟨b, rfl⟩ := Int.eq_ofNat_of_zero_le (Int.le_of_lt hy)
  have e : ((a : Int) % (b : Int)).natAbs = a % b := by
    rw [← Int.natCast_emod]
    exact Int.natAbs_natCast _
  rw [e, Int.natAbs_natCast, Int.natAbs_natCast, Nat.gcd_comm b (a % b), ← Nat.gcd_rec b a, Nat.gcd_comm]
theorem cut_int {ns : List Int} {lo hi : Option Int} {i : Nat} {x : V} (h : (cutV (ns.map V.int) lo hi)[i]? = some x) : ∃ n, x = .int n := by
  have m1 := List.mem_of_getElem? h
  unfold cutV at m1
  have m2 := List.mem_of_mem_drop (List.mem_of_mem_take m1)
  obtain ⟨n, _, e⟩ := List.mem_map.mp m2
  exact ⟨n, e.symm⟩
end Qj
namespace Qj
open PySem PySem.Spec PyProof.Rows L2
/-! ### values of any kind -/
inductive Kd where
  | non | bl | int | str | tup | lst | dic
  deriving DecidableEq
def Kd.nm : Kd → String
  | .non => "NoneType" | .bl => "bool" | .int => "int" | .str => "str" | .tup => "tuple" | .lst => "list" | .dic => "dict"
def Kd.isInt : Kd → Bool
  | .int => true
  | _ => false
inductive Kn (H : Hp) : V → Kd → Prop where
  | non : Kn H .non .non
  | bl (b : Bool) : Kn H (.bl b) .bl
  | int (i : Int) : Kn H (.int i) .int
  | str (x : Str) : Kn H (.str x) .str
  | tup {a : Addr} {xs : List V} (h : H a = some (.tup xs)) : Kn H (.ref a) .tup
  | lst {a : Addr} {xs : List V} (h : H a = some (.lst xs)) : Kn H (.ref a) .lst
  | dic {a : Addr} {kvs : List (Key × V)} (h : H a = some (.dK kvs)) : Kn H (.ref a) .dic
theorem Kn.ex {H H' : Hp} {x : V} {k : Kd} (h : Kn H x k) (e : Evl.Ex H H') : Kn H' x k := by
  cases h with
  | non => exact .non
  | bl b => exact .bl b
  | int i => exact .int i
  | str x => exact .str x
  | tup h => exact .tup (e _ _ h)
  | lst h => exact .lst (e _ _ h)
  | dic h => exact .dic (e _ _ h)
theorem Kn.ty {K : PySem.W.Frag} {H : Hp} {x : V} {k : Kd} (h : Kn H x k) : TyX K H x (.type k.nm) := by
  cases h with
  | non => exact .base .non
  | bl b => exact .base (.bl b)
  | int i => exact .base (.int i)
  | str x => exact .base (.str x)
  | tup h => exact .base (.tup h)
  | lst h => exact .base (.lst h)
  | dic h => exact .base (.dK h)
theorem kd_int (K : PySem.W.Frag) (k : Kd) : PySem.W.kitOne K (.type k.nm) (.type "int") = some (k.isInt || k == .bl) := by
  cases k <;> exact kit_ty (by decide +kernel)
theorem kd_bool (K : PySem.W.Frag) (k : Kd) : PySem.W.kitOne K (.type k.nm) (.type "bool") = some (k == .bl) := by
  cases k <;> exact kit_ty (by decide +kernel)
theorem kd_tup (K : PySem.W.Frag) (k : Kd) : PySem.W.kitOne K (.type k.nm) (.type "tuple") = some (k == .tup) := by
  cases k <;> exact kit_ty (by decide +kernel)
def spWhole : Sp := fun vs H Q _ => ∃ (x : V) (k : Kd), vs = [x] ∧ Kn H x k ∧ Q (.bl k.isInt) H
/-- is_fraction's answers -/
inductive FrQ (H : Hp) : V → Bool → Prop where
  | no {x : V} {k : Kd} : Kn H x k → (k == .tup) = false → FrQ H x false
  | len {a : Addr} {xs : List V} : H a = some (.tup xs) → xs.length ≠ 2 → FrQ H (.ref a) false
  | two {a : Addr} {x y : V} {k l : Kd} : H a = some (.tup [x, y]) → Kn H x k → Kn H y l → (k.isInt && l.isInt) = false → FrQ H (.ref a) false
  | int {a : Addr} {t b : Int} : H a = some (.tup [.int t, .int b]) → FrQ H (.ref a) (decide (1 ≤ b) && decide (((Nat.gcd t.natAbs b.natAbs : Nat) : Int) = 1))
def spIsFr : Sp := fun vs H Q _ => ∃ (x : V) (b : Bool), vs = [x] ∧ FrQ H x b ∧ Q (.bl b) H
/-- fraction: E at the class C where there is none -/
def spFraction (C : Addr) : Sp := fun vs H Q E => ∃ (x y : V) (k l : Kd), vs = [x, y] ∧ Kn H x k ∧ Kn H y l ∧
  ((k.isInt && l.isInt) = false → E (.ref C) none H) ∧
  ∀ t b : Int, x = .int t → y = .int b → (b = 0 → E (.ref C) none H) ∧ (b ≠ 0 → t.natAbs < 2 ^ 8000 ∧ b.natAbs < 2 ^ 8000 ∧ ∀ p H', H p = none → Evl.Ex H H' → H' p = some (frV (fr t b)) → Q (.ref p) H')

theorem ne_of_test {i j : Int} (h : ¬ (!decide (V.int i = V.int j)) = true) : i = j := by
  by_cases e : V.int i = V.int j
  · exact V.int.inj e
  · rw [decide_eq_false e] at h
    exact absurd rfl h
theorem eq_of_test {i j : Int} (h : decide (V.int i = V.int j) = true) : i = j := V.int.inj (of_decide_eq_true h)
theorem eq_of_test' {i j : Int} (h : ¬ decide (V.int i = V.int j) = true) : i ≠ j := fun e => h (decide_eq_true (by rw [e]))
theorem dec_int {i j : Int} : decide (V.int i = V.int j) = decide (i = j) := by
  by_cases e : i = j
  · subst e
    rw [decide_eq_true rfl, decide_eq_true rfl]
  · rw [decide_eq_false e, decide_eq_false (fun z => e (V.int.inj z))]
theorem passX0 {X : Cx} : Passes (L2.CX X.prog X.w) X E0 := by
  intro pins σ H s e s' I h
  obtain ⟨a, B, H', cls, d, _, _, _, _, _, _, _, z⟩ := h
  exact z.elim
def refused : Str := "refused"
def frD (x : Int × Int) : PyData := .tuple [.int x.1, .int x.2]
theorem dp_fr {K : PySem.W.Frag} {H : Hp} {p : Addr} {x : Int × Int} (h : H p = some (frV x)) : Dp K H (.ref p) (frD x) := .tup (SqT.of h) (.cons (.int _) (.cons (.int _) .nil))
theorem okd_fr {x : Int × Int} {k : Nat} (h1 : x.1.natAbs < 2 ^ k) (h2 : x.2.natAbs < 2 ^ k) (h0 : 0 < k) (hk : k ≤ 1000) : Okd (frD x) (k + 1 + (k + 1 + 0)) (max 0 (max 0 0) + 1) := okd_tup (oka_cons (okd_int h1 h0 hk) (oka_cons (okd_int h2 h0 hk) oka_nil))
/-- what _law_made tells -/
inductive MadeQ : V → V → Kd → Kd → Str → Prop where
  | odd {x y : V} {k l : Kd} : (k.isInt && l.isInt) = false → MadeQ x y k l refused
  | zero {t : Int} : MadeQ (.int t) (.int 0) .int .int refused
  | fr {t b : Int} : b ≠ 0 → t.natAbs < 2 ^ 400 → b.natAbs < 2 ^ 400 → MadeQ (.int t) (.int b) .int .int (frD (Qj.fr t b)).shown
def spMade : Sp := fun vs H Q _ => ∃ (x y : V) (k l : Kd) (r : Str), vs = [x, y] ∧ Kn H x k ∧ Kn H y l ∧ MadeQ x y k l r ∧ ∀ H', Evl.Ex H H' → Q (.str r) H'
def spNumber : Sp := fun vs H Q _ => ∃ (D : Addr) (k : Int), vs = [.ref D, .int k] ∧ DeckAt H D ∧ 0 ≤ k ∧ k < 4 ∧ ∀ (n : Int) (H' : Hp), n.natAbs ≤ 10 ^ 18 → Bu D H H' → DeckAt H' D → Q (.int n) H'
def spOdd : Sp := fun vs H Q _ => ∃ (D : Addr) (t b : Int), vs = [.ref D, .int t, .int b] ∧ DeckAt H D ∧ ∀ (x : V) (k : Kd) (H' : Hp), Kn H' x k → k.isInt = false → Bu D H H' → DeckAt H' D → Q x H'
def spTold : Sp := fun vs H Q _ => ∃ t b : Int, vs = [.int t, .int b] ∧ t.natAbs < 2 ^ 400 ∧ b.natAbs < 2 ^ 400 ∧ ∀ H', Evl.Ex H H' → Q (.bl (decide (1 ≤ b) && decide (((Nat.gcd t.natAbs b.natAbs : Nat) : Int) = 1))) H'
theorem pow_le8000 {n k : Nat} (h : n < 2 ^ k) (hk : k ≤ 8000) : n < 2 ^ 8000 := Nat.lt_of_lt_of_le h (Nat.pow_le_pow_right (by decide) hk)
theorem cr_reprK {X : Cx} (K : PySem.W.Frag) (hK : X.K = K) (hg : X.A.guards = some []) (hu : X.A.units + 64 < cLine) : CallR X (.builtin "repr") (rRepr K) := by
  subst hK
  exact cr_repr hg hu
theorem shaped_fr (x : Int × Int) : SeqAt.shaped (frD x) = true := by
  unfold frD SeqAt.shaped
  simp [PyData.canLay0, PyData.canLayAll0, PyData.depth, PyData.depthAll]
theorem eqv_fr (x y : Int × Int) : PyData.eqv (frD x) (frD y) = decide (x.1 = y.1 ∧ x.2 = y.2) := by
  unfold frD
  simp only [PyData.eqv, PyData.eqvAll]
  by_cases h1 : x.1 = y.1
  · by_cases h2 : x.2 = y.2
    · rw [h1, h2]; simp
    · simp [h1, h2]
  · simp [h1]
theorem num_le {v L : Int} (h0 : 0 ≤ v) (h1 : v < 2 * L + 1) (hL : L ≤ 10 ^ 18) : (v - L).natAbs ≤ 10 ^ 18 := by omega
theorem OkA.mono {ds : List PyData} {n m n' m' : Nat} (h : OkA ds n m) (a : n ≤ n') (b : m ≤ m') : OkA ds n' m' := ⟨h.sh, h.nd, h.lv, Nat.le_trans h.wt a, Nat.le_trans h.dp b⟩
theorem Okd.mono {d : PyData} {n m n' m' : Nat} (h : Okd d n m) (a : n ≤ n') (b : m ≤ m') : Okd d n' m' := ⟨h.sh, h.nd, h.lv, Nat.le_trans h.wt a, Nat.le_trans h.dp b⟩
theorem dpall_rep {K : PySem.W.Frag} {H : Hp} {b : Bool} : ∀ n : Nat, DpAll K H (List.replicate n (.bl b)) (List.replicate n (.bool b))
  | 0 => .nil
  | n + 1 => .cons (.bl b) (dpall_rep n)
theorem oka_rep {b : Bool} : ∀ n : Nat, OkA (List.replicate n (.bool b)) n 0
  | 0 => oka_nil
  | n + 1 => (oka_cons okd_bl (oka_rep n)).mono (by omega) (by decide)
theorem FrQ.ex {H H' : Hp} {x : V} {b : Bool} (h : FrQ H x b) (e : Evl.Ex H H') : FrQ H' x b := by
  cases h with
  | no k hn => exact .no (k.ex e) hn
  | len a hl => exact .len (e _ _ a) hl
  | two a hx hy hb => exact .two (e _ _ a) (hx.ex e) (hy.ex e) hb
  | int a => exact .int (e _ _ a)
def spRight : Sp := fun vs H Q _ => ∃ (D : Addr) (t b : Int), vs = [.ref D, .int t, .int b] ∧ DeckAt H D ∧ t.natAbs < 2 ^ 400 ∧ b.natAbs < 2 ^ 400 ∧ ∀ H', Bu D H H' → DeckAt H' D → Q (.bl true) H'
theorem made_any {t b : Int} (ht : t.natAbs < 2 ^ 400) (hb : b.natAbs < 2 ^ 400) : b ≠ 0 → MadeQ (.int t) (.int b) .int .int (frD (Qj.fr t b)).shown := fun h => .fr h ht hb
/-! ### lowest terms -/
theorem dvd_t (t b : Int) : ((Nat.gcd t.natAbs b.natAbs : Nat) : Int) ∣ t := Int.ofNat_dvd_left.mpr (Nat.gcd_dvd_left _ _)
theorem dvd_b (t b : Int) : ((Nat.gcd t.natAbs b.natAbs : Nat) : Int) ∣ b := Int.ofNat_dvd_left.mpr (Nat.gcd_dvd_right _ _)
theorem fdiv_pos {t g : Int} (hg : 0 < g) : t.fdiv g = t / g := Int.fdiv_eq_ediv_of_nonneg t (by omega)
theorem fdiv_neg {t g : Int} (hd : g ∣ t) : t.fdiv (-g) = -1 * t / g := by
  rw [Int.fdiv_eq_ediv_of_dvd (Int.neg_dvd.mpr hd), Int.ediv_neg, Int.neg_mul, Int.one_mul, Int.neg_ediv_of_dvd hd]
theorem gcd_one (t : Int) : Nat.gcd t.natAbs (1 : Int).natAbs = 1 := Nat.gcd_one_right _
theorem fr_one (t : Int) : fr t 1 = (t, 1) := by
  unfold fr
  rw [gcd_one, if_pos (by decide)]
  show (1 * t / 1, (1 : Int) * 1 / 1) = (t, 1)
  rw [Int.one_mul, Int.ediv_one]
  rfl
/-- what is told of a pair -/
theorem told_eq {t b : Int} (hb : 0 < b) : (decide (1 ≤ b) && decide (((Nat.gcd t.natAbs b.natAbs : Nat) : Int) = 1)) = decide ((fr t b).1 = t ∧ (fr t b).2 = b) := by
  rw [decide_eq_true (show 1 ≤ b by omega), Bool.true_and]
  by_cases h : ((Nat.gcd t.natAbs b.natAbs : Nat) : Int) = 1
  · rw [decide_eq_true h, eq_comm, decide_eq_true_eq]
    unfold fr
    rw [if_pos hb, h, Int.one_mul, Int.one_mul, Int.ediv_one, Int.ediv_one]
    exact ⟨rfl, rfl⟩
  · rw [decide_eq_false h, eq_comm, decide_eq_false_iff_not]
    rintro ⟨_, h2⟩
    unfold fr at h2
    rw [if_pos hb, Int.one_mul, Int.one_mul] at h2
    dsimp only at h2
    have d := dvd_b t b
    have e := Int.ediv_mul_cancel d
    rw [h2] at e
    have e2 : b * ((Nat.gcd t.natAbs b.natAbs : Nat) : Int) = b * 1 := by rw [e, Int.mul_one]
    exact h (Int.eq_of_mul_eq_mul_left (by omega) e2)
theorem fr_lt {t b : Int} {k : Nat} (hb : b ≠ 0) (h1 : t.natAbs < 2 ^ k) (h2 : b.natAbs < 2 ^ k) : (fr t b).1.natAbs < 2 ^ k ∧ (fr t b).2.natAbs < 2 ^ k := by
  have key : ∀ x : Int, x.natAbs < 2 ^ k → ((if 0 < b then 1 else -1) * x / ((Nat.gcd t.natAbs b.natAbs : Nat) : Int)).natAbs < 2 ^ k := by
    intro x hx
    refine Nat.lt_of_le_of_lt ?_ hx
    have e : ((if 0 < b then 1 else -1) * x).natAbs = x.natAbs := by
      split
      · rw [Int.one_mul]
      · rw [Int.neg_mul, Int.one_mul, Int.natAbs_neg]
    have l := Int.natAbs_ediv_le_natAbs ((if 0 < b then 1 else -1) * x) ((Nat.gcd t.natAbs b.natAbs : Nat) : Int)
    omega
  exact ⟨key t h1, key b h2⟩
end Qj
namespace Qj
open PySem PySem.Spec PyProof.Rows L2
/-! ### own exception classes as the written part has them -/
def veL : List Value := [.type "ValueError", .type "Exception", .type "BaseException", .type "object"]
def lkL : List Value := [.type "LookupError", .type "Exception", .type "BaseException", .type "object"]
/-- the class at C: its name, what is behind it in its mro, its own lookups -/
def ecIn (K : PySem.W.Frag) (C : Addr) (nm : Str) (bm : List Value) (newId : String) : Bool :=
  (match K.lookup C with
    | some ⟨.type "type", _, .cls cd, sl⟩ => (match sl.toList with
      | [_, _, _, _, some (.builtin n), _] => (cd.name == nm && (cd.mro == .ref C :: bm && (n == newId && (cd.hasDict && !cd.hasDel))))
      | _ => false)
    | _ => false) &&
  (PySem.W.findIn K (.ref C) "__setattr__" == some (some (.builtin "object.__setattr__")) &&
  (PySem.W.findIn K (.ref C) "__getattribute__" == some (some (.builtin "BaseException.__getattribute__")) &&
  (PySem.W.findIn K (.ref C) "__getattr__" == some none &&
  (PySem.W.findIn K (.ref C) "__class__" == some (some (.builtin "object.__class__")) &&
  PySem.W.keepIn K (.ref C)))))
structure ExC (K : PySem.W.Frag) (C : Addr) (nm : Str) (bm : List Value) (newId : String) : Prop where
  cls : ∃ q N bs sn sub ab col dd k0 k1 k2 k3 k5, K.lookup C = some (excClassObj nm q C N bs bm true sn sub ab col dd k0 k1 k2 k3 k5 newId)
  sa : PySem.W.findIn K (.ref C) "__setattr__" = some (some (.builtin "object.__setattr__"))
  ga : PySem.W.findIn K (.ref C) "__getattribute__" = some (some (.builtin "BaseException.__getattribute__"))
  gt : PySem.W.findIn K (.ref C) "__getattr__" = some none
  ca : PySem.W.findIn K (.ref C) "__class__" = some (some (.builtin "object.__class__"))
  kp : PySem.W.keepIn K (.ref C) = true
theorem ExC.of {K : PySem.W.Frag} {C : Addr} {nm : Str} {bm : List Value} {newId : String} (h : ecIn K C nm bm newId = true) : ExC K C nm bm newId := by
  unfold ecIn at h
  simp only [Bool.and_eq_true, beq_iff_eq] at h
  obtain ⟨h0, h1, h2, h3, h4, h5⟩ := h
  refine ⟨?_, h1, h2, h3, h4, h5⟩
  split at h0
  · rename_i dd cd sl ho
    split at h0
    · rename_i k0 k1 k2 k3 n k5 hs
      simp only [Bool.and_eq_true, beq_iff_eq, Bool.not_eq_true'] at h0
      obtain ⟨e1, e2, e3, e4, e5⟩ := h0
      obtain ⟨a1, a2, a3, a4, a5, a6, a7, a8, a9, a10, a11⟩ := cd
      dsimp only at e1 e2 e4 e5
      subst e1 e2 e3 e4 e5
      have hsl : sl = #[k0, k1, k2, k3, some (.builtin n), k5] := by
        obtain ⟨l⟩ := sl
        simp only at hs
        rw [hs]
      subst hsl
      exact ⟨_, _, _, _, _, _, _, _, _, _, _, _, _, ho⟩
    · cases h0
  · cases h0
section
variable {K : PySem.W.Frag} {C D : Addr} {nm nm2 : Str} {bm bm2 : List Value} {newId newId2 : String}
theorem ExC.clsIn (T : ExC K C nm bm newId) : ∃ cd, PySem.W.clsIn K C = some cd ∧ cd.name = nm ∧ cd.mro = .ref C :: bm ∧ cd.hasDict = true := by
  obtain ⟨q, N, bs, sn, sub, ab, col, dd, k0, k1, k2, k3, k5, h⟩ := T.cls
  refine ⟨_, by unfold PySem.W.clsIn; rw [h], rfl, rfl, rfl⟩
theorem ExC.mro (T : ExC K C nm bm newId) (b : Value) : PySem.W.mroIn K C b = some ((Value.ref C :: bm).contains b) := by
  obtain ⟨cd, h, _, hm, _⟩ := T.clsIn
  unfold PySem.W.mroIn
  rw [h, Option.bind_some, hm, if_neg (by simp)]
theorem ExC.ty (T : ExC K C nm bm newId) : PySem.W.typeIn K (.ref C) = some (.type "type") := by
  obtain ⟨q, N, bs, sn, sub, ab, col, dd, k0, k1, k2, k3, k5, h⟩ := T.cls
  unfold PySem.W.typeIn
  simp only
  rw [h]
  rfl
theorem ExC.ne (T : ExC K C nm bm newId) (S : ExC K D nm2 bm2 newId2) (h : nm ≠ nm2) : C ≠ D := fun z => by
  subst z
  obtain ⟨cd, h1, e1, _⟩ := T.clsIn
  obtain ⟨cd2, h2, e2, _⟩ := S.clsIn
  rw [h1] at h2
  cases h2
  exact h (e1.symm.trans e2)
/-- isinstance of an instance of C -/
theorem ExC.one (T : ExC K C nm bm newId) (S : ExC K D nm2 bm2 newId2) : PySem.W.kitOne K (.ref C) (.ref D) = some ((Value.ref C :: bm).contains (.ref D)) := by
  unfold PySem.W.kitOne
  by_cases e : (Value.ref C == Value.ref D) = true
  · rw [if_pos e]
    have e2 := beq_iff_eq.mp e
    rw [← e2]
    simp
  · rw [if_neg e]
    obtain ⟨cd, h1, _⟩ := S.clsIn
    unfold PySem.W.kitCls
    simp only
    rw [h1, S.ty]
    rw [if_pos (by simp)]
    exact T.mro _
theorem ExC.oneT (T : ExC K C nm bm newId) {t : String} (h : PySem.W.kitMeta t = true) : PySem.W.kitOne K (.ref C) (.type t) = some ((Value.ref C :: bm).contains (.type t)) := by
  unfold PySem.W.kitOne
  rw [if_neg (by simp)]
  unfold PySem.W.kitCls
  simp only
  rw [if_pos h]
  exact T.mro _
theorem ExC.has (T : ExC K C nm bm newId) (n : String) (h : bm.contains (.type n) = true) : PySem.W.mroIn K C (.type n) = some true := by
  rw [T.mro, List.contains_cons, h, Bool.or_true]
end
/-- the base that the class stands on -/
structure Bas (bm : List Value) (newId : String) : Prop where
  obj : bm.contains (.type "object") = true
  exc : bm.contains (.type "BaseException") = true
  pass : ∀ self : Value, refuseLoop self "__setattr__" bm = pure ()
  fac : ∃ (B initId : String) (bmB : List Value), ExcBaseFacts B newId initId bmB ∧ ∀ Y : String, bm.contains (.type Y) = bmB.contains (.type Y)
theorem bas_ve : Bas veL "ValueError.__new__" := ⟨by decide +kernel, by decide +kernel, fun self => PySem.HandSPX.refsVE_pass self veL (by decide +kernel), _, _, _, PySem.F.excBase_ValueError, fun _ => rfl⟩
theorem bas_own {c : Addr} {bm : List Value} {newId : String} (b : Bas bm newId) : Bas (.ref c :: bm) newId := by
  refine ⟨by rw [List.contains_cons, b.obj, Bool.or_true], by rw [List.contains_cons, b.exc, Bool.or_true], fun self => by rw [refuseLoop_ref]; exact b.pass self, ?_⟩
  obtain ⟨B, i, bmB, F, h⟩ := b.fac
  exact ⟨B, i, bmB, F, fun Y => by rw [List.contains_cons, h Y]; rfl⟩
theorem bas_lk : Bas lkL "LookupError.__new__" := ⟨by decide +kernel, by decide +kernel, fun self => PySem.F.store_LookupError.passes self, _, _, _, PySem.F.excBase_LookupError, fun _ => rfl⟩

/-! ### self.f = v of a new exception -/
section
open Builtin Builtin.ObjectAttr
variable {prog : Program} {w : World} {A : Around} {R : Result → Shared → Prop} {H0 : Heap} {g : Array GenState} {dr : Drawn} {t : Nat} {os : OsState}
theorem e_osa {K : PySem.W.Frag} {f : Str} {tk : Tok} {v : Value} {x C : Addr} {fv : Array Value} {nm : Str} {bm : List Value} {newId : String} (T : ExC K C nm bm newId) (b : Bas bm newId) (X : K.In H0)
    (hx : H0.get? x = some { cls := .ref C, data := .fields fv }) (no : PySem.W.findIn K (.ref C) f = some none)
    (fin : ∀ h2 tk2 dx, (∀ c o, c ≠ x → H0.get? c = some o → h2.get? c = some o) → H0.objs.size ≤ dx → dx ≠ x → h2.get? x = some { cls := .ref C, dict := some dx, data := .fields fv } →
      h2.Ns1 dx (fun y => if y = f then some v else none) → R (.ok (.ret .none)) ⟨h2, g, dr, tk2, os⟩) :
    codeAny (model prog w) A (.call (.builtin "object.__setattr__") ⟨[.ref x, .str f tk, v], []⟩) R ⟨H0, g, dr, t, os⟩ := by
  obtain ⟨cd, hcd, _, hm, hh⟩ := T.clsIn
  have J : PySem.W.InstAt H0 x { cls := .ref C, data := .fields fv } C none := ⟨hx, rfl, rfl, trivial⟩
  have far : H0.objs.size ≠ x := (Nat.ne_of_lt (Heap.lt_size hx)).symm
  have G := F.store_object
  have isO : PySem.W.Looks (model prog w) H0 (isInstance (.ref x) (.type "object")) true :=
    J.type.andThen (PySem.W.looks_mroIn X (T.has "object" b.obj))
  refine codeAny_call_builtin G.slot.plain G.entry
    (@PySem.W.check_slot (model prog w) _ _ ⟨H0, g, dr, t, os⟩ "object.__setattr__" "object" "__setattr__" (.ref x) [.str f tk, v] [] _ G.kind G.split isO (G.args (.ref x) (.str f tk) v) ?_)
  have look1 : PySem.W.Looks (model prog w) H0 (mroOf (.ref C)) cd.mro :=
    (PySem.W.looks_clsIn X hcd).andThen .now
  have look2 : PySem.W.Looks (model prog w) H0 (storeTaker? none) none :=
    .now
  have look3 : PySem.W.Looks (model prog w) H0 (classData C) cd :=
    PySem.W.looks_clsIn X hcd
  have free : refuseLoop (.ref x) "__setattr__" cd.mro = pure () := by
    rw [hm, refuseLoop_ref]; exact b.pass _
  rw [PySem.W.osa_eq, refuse_eq]
  refine wpAny_bind (wpAny_bind (J.type.at
    (wpAny_bind (look1.at ?_))))
  rw [free]
  refine wpAny_pure (wpAny_bind (J.type.at
    (wpAny_bind ((PySem.W.looks_findIn X no).at (wpAny_bind (look2.at ?_))))))
  show wpAny _ _ (storeInOwnDict (.ref x) (.ref C) (.str f tk) f v false) _ _ _
  obtain ⟨c1, c2, c3, c4, c5, c6, c7, c8, c9, c10, c11⟩ := cd
  dsimp only at hh
  subst hh
  unfold storeInOwnDict ownDictForStores
  repeat (first
    | with_reducible refine PySem.HandSPX.store_in_new ?_ ?_
    | with_reducible refine wpAny_loadPart_at hx ?_
    | with_reducible refine look3.at ?_
    | wp_step)
  · exact ⟨_, #[], _,
      (Heap.get?_update_ne _ _ _ _ far).trans (Heap.get?_push_at rfl rfl),
      rfl, fun e he => absurd he (by simp), fun _ => rfl⟩
  · intro h2 tk2 ns sb
    have there : (H0.push { cls := .type "dict", data := .dict #[] }).get? x = some { cls := .ref C, data := .fields fv } :=
      Heap.get?_push_of_some _ hx
    refine fin h2 tk2 H0.objs.size (fun c o hc ho => ?_) (Nat.le_refl _) far ?_ ns
    · refine (sb.2 c (Nat.ne_of_lt (Heap.lt_size ho))).trans ?_
      exact (Heap.get?_update_ne _ _ _ _ hc).trans (Heap.get?_push_of_some _ ho)
    · exact (sb.2 x far.symm).trans (Heap.get?_update_self _ there rfl)
end
section
variable {X : Cx} {pins : List (Addr × Obj)} {σ : L2.St} {H : Hp} {s : Shared} {a C : Addr} {f nm : Str} {y : V} {u : Value} {bm : List Value} {newId : String}
theorem e_store {A : Around} {Q : Unit → Shared → Prop} {E : Value → Shared → Prop} (T : ExC X.K C nm bm newId) (b : Bas bm newId) (I : Inv X pins σ H s) (e : H a = some (exo a C none))
    (no : PySem.W.findIn X.K (.ref C) f = some none) (ry : RelV y u)
    (h : ∀ dx s2, H dx = none → dx ≠ a → Inv X pins σ (upd (upd H dx (exd dx [(f, y)])) a (exo a C (some dx))) s2 → Q () s2) : wpAny (model X.prog X.w) A (setAttr (.ref a) f u) Q E s := by
  obtain ⟨t1, ho⟩ := exo_at I.hok e
  obtain ⟨hp, g, d, t, os⟩ := s
  refine PySem.W.set_plain I.kIn (ox := { cls := .ref C, dict := none, data := .fields #[.ref t1, .none, .none, .none, .bool false, .none] }) (od := none) ⟨ho, rfl, rfl, trivial⟩ T.sa ?_
  refine e_osa T b I.kIn ho no (fun h2 tk2 dx k dn dne hx hn => ?_)
  have nw : H dx = none := I.hok.fresh dn
  have ndx : ∀ {c : Addr} {o : Obj}, hp.get? c = some o → c ≠ dx := fun {c o} q => Nat.ne_of_lt (Nat.lt_of_lt_of_le (Heap.lt_size q) dn)
  have nea : ∀ {c : Addr}, H c = none → c ≠ a := fun {c} n z => by rw [z, e] at n; cases n
  have U : Un X.fs [] H (upd (upd H dx (exd dx [(f, y)])) a (exo a C (some dx))) hp h2 := {
    keep := fun c o q n _ _ => k c o (nea n) q
    slot := fun c o q n _ _ => ⟨o.slots, k c o (nea n) q⟩
    free := fun c o q n _ => by rw [upd_ne (nea n), upd_ne (ndx q)]; exact n
    there := fun c o q _ => by
      by_cases hc : c = a
      · exact ⟨_, by rw [hc]; exact hx⟩
      · exact ⟨o, k c o hc q⟩
    tups := fun c xs q => by rw [upd_ne (at_ne e q exo_tup), upd_ne (ne_of_none q nw)]; exact q
    frzs := fun c o v q => by rw [upd_ne (at_ne e q exo_frz), upd_ne (ne_of_none q nw)]; exact q
    tbls := fun c ps q => ⟨#[], by rw [upd_ne (at_ne e q exo_tbl), upd_ne (ne_of_none q nw), q]; simp⟩ }
  refine h dx _ nw dne (I.un (t' := tk2) U fun c o q => ?_)
  by_cases hc : c = a
  · subst hc
    rw [upd_same] at q
    cases q
    exact exo_ok hx
  · rw [upd_ne hc] at q
    by_cases hd : c = dx
    · subst hd
      rw [upd_same] at q
      cases q
      exact exd_ok hn (relO_put (fs := []) ry fun g => True.intro)
    · rw [upd_ne hd] at q
      refine (I.hok c o q).stay (fun z v hz r => k z v ?_ r) (fun z hz => ?_) fun z xs hz => ?_
      · rcases hz with hz | hz
        · rw [hz]; exact hc
        · exact at_ne e hz exo_own
      · rw [upd_ne (at_ne e hz exo_own), upd_ne (ne_of_none hz nw)]; exact hz
      · rw [upd_ne (at_ne e hz exo_tup), upd_ne (ne_of_none hz nw)]; exact hz
end
/-- a class of errors -/
structure EcK (K : PySem.W.Frag) (C : Addr) : Prop where
  ex : ∃ (nm : Str) (bm : List Value) (newId : String), ExC K C nm bm newId ∧ Bas bm newId
/-- self.f = e within __init__ -/
def tEst (K : PySem.W.Frag) (f : Str) (to te : TE) : TS := fun D σ H => te σ H fun y H1 => to σ H1 fun x H2 => ∃ a C : Addr, x = .ref a ∧ EcK K C ∧ PySem.W.findIn K (.ref C) f = some none ∧
  H2 a = some (exo a C none) ∧ ∀ dx, H2 dx = none → dx ≠ a → D.nx σ (upd (upd H2 dx (exd dx [(f, y)])) a (exo a C (some dx)))
section
variable {X : Cx} {o e : Expr} {es : List Expr} {to te : TE} {ta : TA} {f : Str} {p p2 pos : Pos}
theorem ps_est (ho : PE X o to) (he : PE X e te) (hs : swapsWith e (some (.Attribute o f p2)) pos.line X.env = pure false := by rfl) : PS X (.Assign [.Attribute o f p2] e pos) (tEst X.K f to te) := by
  constructor
  intro pins s σ H D I h
  refine plainObj_wpAny_Assign_Attribute (thn (he.run pins s σ H _ I h) fun v s1 ⟨y, H1, I1, r1, q1⟩ =>
    thn (ho.run pins s1 σ H1 _ I1 q1) fun u s2 ⟨x, H2, I2, r2, a, C, ex, T, hno, ea, q⟩ => ?_) hs
  subst ex
  obtain rfl : u = Value.ref a := r2
  obtain ⟨nm, bm, newId, T1, b⟩ := T.ex
  exact e_store T1 b I2 ea hno r1 fun dx s2 n ne J => ⟨σ, _, J, q dx n ne⟩
/-- C(), C without __init__, as a value -/
theorem pe_mk0 {C : Addr} {bmB : List Value} {B newId initId : String} {x : Str} (F : ExcBaseFacts B newId initId bmB) (q : PySem.W.excIn X.K C bmB newId = true) (gC : X.mg x = some (.ref C))
    (kC : PySem.W.keepIn X.K (.ref C) = true) (hg : Gl X x) (h1 : (x == ("__debug__" : Str)) = false := by decide) :
    PE X (.Call (.Name x p) [] [] pos) (fun σ H Q => ∀ a, H a = none → Q (.ref a) (upd H a (exo a C none))) := by
  refine ⟨fun pins s σ H Q I h => ?_⟩
  refine wpAny_Call_Name_kw (ld_glob I hg gC ?_ h1)
  refine PySem.W.callWith_K0 I.kIn kC ?_
  obtain ⟨bm, N, nm, qn, bs, hdct, sn, sub, ab, col, dd, k0, k1, k2, k3, k5, mN, hC, hN, hni, T⟩ := exc_obj I.kIn q
  show wpAny _ _ (call (.ref C) []) _ _ _
  refine wpAny_call_exc_subT F T hC hN hni (fun h2 a hm => ?_) (Nat.zero_le _)
  have hn : H a = none := I.hok.gone hm.new
  obtain ⟨t, ht, _, _⟩ := hm.there
  exact ⟨.ref a, upd H a (exo a C none), I.laidN hm.keeps hm.new hn (exo_ok ht), rfl, h a hn⟩
/-- C(e, ..), C with its own __init__, as a value -/
def tMkE (C : Addr) (sp : Sp) (ta : TA) : TE := fun σ H Q => ta σ H fun vs H1 => vs.length ≤ 1000 ∧ ∀ a, H1 a = none →
  sp (.ref a :: vs) (upd H1 a (exo a C none)) (fun v H2 => v = .non ∧ Q (.ref a) H2) (fun _ _ _ => False)
theorem pe_mkE {C fI : Addr} {k : Nat} {fd : FuncData} {ps : List Str} {sp : Sp} {x : Str} (T : EcK X.K C) (iC : PySem.W.findIn X.K (.ref C) "__init__" = some (some (.ref fI))) (tI : PySem.W.typeIn X.K (.ref fI) = some (.type "function"))
    (F1 : FnOk X.prog X.w X.K X.mg X.base CX0 k fI fd ps sp) (hr : Room (k + 1) X.A) (hb : Binds X.K fd ps []) (hg : Gl X x) (hm : X.mg x = some (.ref C)) (kC : PySem.W.keepIn X.K (.ref C) = true) (ha : PA X (e :: es) ta)
    (hdb : (x == ("__debug__" : Str)) = false := by decide) (he : starEach (e :: es) X.env = (false, eval e X.env) :: starEach es X.env := by rfl) (hpl : (backTo pos (starEach es X.env)).any (·.1) = false := by rfl) :
    PE X (.Call (.Name x p) (e :: es) [] pos) (tMkE C sp ta) := by
  refine ⟨fun pins s σ H Q I h => ?_⟩
  obtain ⟨nm0, bm, newId, T1, b⟩ := T.ex
  obtain ⟨q0, N, bs, sn, sub, ab, col, dd, k0, k1, k2, k3, k5, hC⟩ := T1.cls
  obtain ⟨B, iB, bmB, F0, has⟩ := b.fac
  refine wpAny_Call_Name_kw (ld_glob I hg hm ?_ hdb)
  refine PySem.W.callWith_K (h₀ := X.base) I.ok.mod.kin kC (thn (ha.run pos pins s σ H _ I h) fun us s1 ⟨vs, H1, I1, r1, hz, q1⟩ => ⟨I1.kIn, ?_⟩) he hpl
  show wpAny _ _ (call (.ref C) us) _ _ _
  obtain ⟨hp, g, dr, tk, os⟩ := s1
  have up : hp.objs.size ≤ hp.objs.size + 1 := Nat.le_succ _
  have hn : H1 (hp.objs.size + 1) = none := I1.hok.fresh up
  have hq := q1 (hp.objs.size + 1) hn
  have old : ∀ c o, hp.get? c = some o → ((hp.push (PySem.W.kdv_tup us)).push (PySem.HandSPX.excO C hp.objs.size)).get? c = some o := fun c o z =>
    Heap.get?_push_of_some _ (Heap.get?_push_of_some _ z)
  have here : ((hp.push (PySem.W.kdv_tup us)).push (PySem.HandSPX.excO C hp.objs.size)).get? (hp.objs.size + 1) = some (PySem.HandSPX.excO C hp.objs.size) := by heap_get
  have I2 : Inv X pins σ (upd H1 (hp.objs.size + 1) (exo (hp.objs.size + 1) C none))
      ⟨(hp.push (PySem.W.kdv_tup us)).push (PySem.HandSPX.excO C hp.objs.size), g, dr, tk, os⟩ :=
    I1.laid (t' := tk) (a := hp.objs.size + 1) (o := exo (hp.objs.size + 1) C none) (h' := (hp.push (PySem.W.kdv_tup us)).push (PySem.HandSPX.excO C hp.objs.size)) old up (exo_ok here)
  have r2 : Vals (V.ref (hp.objs.size + 1) :: vs) (Value.ref (hp.objs.size + 1) :: us) := .cons rfl r1
  have hl : (Value.ref (hp.objs.size + 1) :: us).length = ps.length := by
    have z := r2.length
    have z2 := F1.len _ _ _ _ hq
    omega
  have small : us.length ≤ sizeLine := by
    rw [← Paired.length r1, sizeLine_eq]
    omega
  have bt : BindsTo ⟨(hp.push (PySem.W.kdv_tup us)).push (PySem.HandSPX.excO C hp.objs.size), g, dr, tk, os⟩ fd ⟨Value.ref (hp.objs.size + 1) :: us, []⟩ (ps.zip (Value.ref (hp.objs.size + 1) :: us)) := by
    have z := hb _ (Value.ref (hp.objs.size + 1) :: us) I2.kIn (by rw [List.append_nil]; exact hl)
    rw [List.append_nil] at z
    exact z
  refine wpAny_call (PySem.HandSPX.call_own F0 has (I1.kIn _ _ hC) (PySem.W.looks_findIn I1.kIn iC) (fun self => PySem.W.bind_fn I1.kIn self tI) small
    (codeAny_mono (F1.run _ X.stack _ _ ⟨Value.ref (hp.objs.size + 1) :: us, []⟩ (Value.ref (hp.objs.size + 1) :: us) _ _ (fun _ _ _ => False) (hr.make C us []) (I2.env0.make C us []) bt r2 hq) fun r s2 hq2 => ?_))
  cases r with
  | error er => exact (pass0 pins σ _ _ er s2 I2 hq2)
  | ok fl =>
    cases fl with
    | ret u =>
      obtain ⟨v, H2, J, rv, ev, q2⟩ := I2.after hq2
      subst ev
      exact ⟨rv, .ref _, H2, J, rfl, q2⟩
    | next => exact False.elim hq2
    | brk => exact False.elim hq2
    | cont => exact False.elim hq2
/-- e.f of an exception -/
def tEat (K : PySem.W.Frag) (te : TE) (f : Str) : TE := fun σ H Q => te σ H fun x H1 => ∃ (a C dx : Addr) (fs : List (Str × V)) (v : V), x = .ref a ∧ EcK K C ∧ PySem.W.findIn K (.ref C) f = some none ∧
  H1 a = some (exo a C (some dx)) ∧ H1 dx = some (exd dx fs) ∧ fs.lookup f = some v ∧ Q v H1
theorem pe_eat (he : PE X e te) (hb : attributeBase e f X.env (eval e X.env) = eval e X.env := by rfl) : PE X (.Attribute e f pos) (tEat X.K te f) := by
  refine ⟨fun pins s σ H Q I h => ?_⟩
  refine attr_of hb (thn (he.run pins s σ H _ I h) fun u s1 ⟨x, H1, I1, rx, a, C, dx, fs, v, ex, T, no, ea, ed, l, q⟩ => ?_)
  subst ex
  obtain rfl : u = Value.ref a := rx
  obtain ⟨nm, bm, newId, T1, b⟩ := T.ex
  obtain ⟨t1, ho⟩ := exo_at I1.hok ea
  obtain ⟨mA, hns, rel⟩ := exd_at I1.hok ed
  obtain ⟨u, hu, ru⟩ := RelO.some_of (v := v) (o := mA f) (by rw [← l]; exact rel f)
  obtain ⟨od, hod, hl⟩ := lookIn_ns hns
  obtain ⟨cd, hcd, _, hm, hh⟩ := T1.clsIn
  have hd : PySem.W.hasDictIn X.K C = true := by
    unfold PySem.W.hasDictIn
    rw [hcd]
    exact hh
  refine PySem.HandSPX.exc_get I1.kIn (ox := { cls := .ref C, dict := some dx, data := .fields #[.ref t1, .none, .none, .none, .bool false, .none] }) (od := some od) ⟨ho, rfl, rfl, hod⟩ T1.ga T1.gt (T1.has "BaseException" b.exc)
    (PySem.W.findObj_own hd no rfl (by rw [hl, hu])) (handed_of ru) ?_
  exact ⟨v, H1, I1.tok _, ru, q⟩
/-- isinstance(x, c), x an exception -/
def rIsE (K : PySem.W.Frag) : List V → Hp → VK → Prop := fun xs H Q => ∃ (a C : Addr) (d : Option Addr) (c : V) (u : Value) (b : Bool), xs = [.ref a, c] ∧ ClsV c u ∧ EcK K C ∧ H a = some (exo a C d) ∧ (∀ dx, d = some dx → ∃ fs, H dx = some (exd dx fs)) ∧
  PySem.W.kitOne K (.ref C) u = some b ∧ Q (.bl b) H
theorem cr_isE (hn : PySem.W.specialIn X.K (.builtin "object.__class__") "__get__" = some (some (.builtin "getset_descriptor.__get__"))) (ht : PySem.W.takesIn X.K (.builtin "object.__class__") = some true) : CallR X (.builtin "isinstance") (rIsE X.K) := by
  intro pins s σ H xs us Q I r h
  obtain ⟨a, C, d, c, u, b, rfl, k, T, ea, ed, e, q⟩ := h
  obtain ⟨u1, u2, rfl, r1, r2⟩ := vals2 r
  cases k.eq r2
  cases (show u1 = Value.ref a from r1)
  obtain ⟨nm, bm, newId, T1, bb⟩ := T.ex
  obtain ⟨t1, ho⟩ := exo_at I.hok ea
  obtain ⟨cd, hcd, _, hm, hh⟩ := T1.clsIn
  have J : ∃ od, PySem.W.InstAt s.heap a { cls := .ref C, dict := d, data := .fields #[.ref t1, .none, .none, .none, .bool false, .none] } C od := by
    cases d with
    | none => exact ⟨none, ho, rfl, rfl, trivial⟩
    | some dx =>
      obtain ⟨fs, z⟩ := ed dx rfl
      obtain ⟨mA, hns, rel⟩ := exd_at I.hok z
      obtain ⟨od, hod, hl⟩ := lookIn_ns hns
      exact ⟨some od, ho, rfl, rfl, hod⟩
  obtain ⟨od, J⟩ := J
  exact PySem.W.kia_one (PySem.W.kitx_exc (by rw [hcd]; rfl) T1.ga T1.gt (T1.has "BaseException" bb.exc) T1.ca hn ht (T1.has "object" bb.obj)) I.kIn J e (fun z => nomatch z) fun tk => ⟨.bl b, H, I.tok tk, rfl, q⟩
end
end Qj
namespace Qj
open PySem PySem.Spec PyProof.Rows L2
section
variable {X : Cx} {e : Expr} {es : List Expr} {ta : TA} {p pos : Pos}
/-- C(e, ..) that is raised: C over any built-in class, with its own __init__ -/
theorem pmk_e {CX : CXT} {C fI : Addr} {k : Nat} {fd : FuncData} {ps : List Str} {sp : Sp} {x : Str} (T : EcK X.K C) (iC : PySem.W.findIn X.K (.ref C) "__init__" = some (some (.ref fI))) (tI : PySem.W.typeIn X.K (.ref fI) = some (.type "function"))
    (F1 : FnOk X.prog X.w X.K X.mg X.base CX k fI fd ps sp) (hr : Room (k + 1) X.A) (hb : Binds X.K fd ps []) (hx : Passes CX X (fun _ _ _ => False)) (hg : Gl X x) (hm : X.mg x = some (.ref C)) (kC : PySem.W.keepIn X.K (.ref C) = true) (ha : PA X (e :: es) ta)
    (hdb : (x == ("__debug__" : Str)) = false := by decide) (he : starEach (e :: es) X.env = (false, eval e X.env) :: starEach es X.env := by rfl) (hpl : (backTo pos (starEach es X.env)).any (·.1) = false := by rfl) :
    PMk X (.Call (.Name x p) (e :: es) [] pos) (fun σ H Q => ta σ H fun vs H1 => vs.length ≤ 1000 ∧ ∀ a, H1 a = none → sp (.ref a :: vs) (upd H1 a (exo a C none))
      (fun v H2 => v = .non ∧ ∃ (d : Addr) (fs : List (Str × V)), H2 a = some (exo a C (some d)) ∧ H2 d = some (exd d fs) ∧ H1 d = none ∧ Q (.ref C) (some d) (upd (del H2 a) d (.xd fs))) (fun _ _ _ => False)) := by
  intro pins s σ H Q I h
  obtain ⟨nm0, bm, newId, T1, b⟩ := T.ex
  obtain ⟨q0, N, bs, sn, sub, ab, col, dd, k0, k1, k2, k3, k5, hC⟩ := T1.cls
  obtain ⟨B, iB, bmB, F0, has⟩ := b.fac
  have rs : Raises X (.ref C) := raises_own (T1.has "BaseException" b.exc) T1.ty
  refine wpAny_Call_Name_kw (ld_glob I hg hm ?_ hdb)
  refine PySem.W.callWith_K (h₀ := X.base) I.ok.mod.kin kC (thn (ha.run pos pins s σ H _ I h) fun us s1 ⟨vs, H1, I1, r1, hz, q1⟩ => ⟨I1.kIn, ?_⟩) he hpl
  show wpAny _ _ (call (.ref C) us) _ _ _
  obtain ⟨hp, g, dr, tk, os⟩ := s1
  have up : hp.objs.size ≤ hp.objs.size + 1 := Nat.le_succ _
  have hn : H1 (hp.objs.size + 1) = none := I1.hok.fresh up
  have hq := q1 (hp.objs.size + 1) hn
  have old : ∀ c o, hp.get? c = some o → ((hp.push (PySem.W.kdv_tup us)).push (PySem.HandSPX.excO C hp.objs.size)).get? c = some o := fun c o z =>
    Heap.get?_push_of_some _ (Heap.get?_push_of_some _ z)
  have here : ((hp.push (PySem.W.kdv_tup us)).push (PySem.HandSPX.excO C hp.objs.size)).get? (hp.objs.size + 1) = some (PySem.HandSPX.excO C hp.objs.size) := by heap_get
  have I2 : Inv X pins σ (upd H1 (hp.objs.size + 1) (exo (hp.objs.size + 1) C none))
      ⟨(hp.push (PySem.W.kdv_tup us)).push (PySem.HandSPX.excO C hp.objs.size), g, dr, tk, os⟩ :=
    I1.laid (t' := tk) (a := hp.objs.size + 1) (o := exo (hp.objs.size + 1) C none) (h' := (hp.push (PySem.W.kdv_tup us)).push (PySem.HandSPX.excO C hp.objs.size)) old up (exo_ok here)
  have r2 : Vals (V.ref (hp.objs.size + 1) :: vs) (Value.ref (hp.objs.size + 1) :: us) := .cons rfl r1
  have hl : (Value.ref (hp.objs.size + 1) :: us).length = ps.length := by
    have z := r2.length
    have z2 := F1.len _ _ _ _ hq
    omega
  have small : us.length ≤ sizeLine := by
    rw [← Paired.length r1, sizeLine_eq]
    omega
  have bt : BindsTo ⟨(hp.push (PySem.W.kdv_tup us)).push (PySem.HandSPX.excO C hp.objs.size), g, dr, tk, os⟩ fd ⟨Value.ref (hp.objs.size + 1) :: us, []⟩ (ps.zip (Value.ref (hp.objs.size + 1) :: us)) := by
    have z := hb _ (Value.ref (hp.objs.size + 1) :: us) I2.kIn (by rw [List.append_nil]; exact hl)
    rw [List.append_nil] at z
    exact z
  refine wpAny_call (PySem.HandSPX.call_own F0 has (I1.kIn _ _ hC) (PySem.W.looks_findIn I1.kIn iC) (fun self => PySem.W.bind_fn I1.kIn self tI) small
    (codeAny_mono (F1.run _ X.stack _ _ ⟨Value.ref (hp.objs.size + 1) :: us, []⟩ (Value.ref (hp.objs.size + 1) :: us) _ _ (fun _ _ _ => False) (hr.make C us []) (I2.env0.make C us []) bt r2 hq) fun r s2 hq2 => ?_))
  cases r with
  | error er => exact hx pins σ _ _ er s2 I2 hq2
  | ok fl =>
    cases fl with
    | ret u =>
      obtain ⟨v, H2, os2, bare2, un2, hok2, rv, ev, d, fs, ea, ed, hd1, q2⟩ := hq2
      subst ev
      obtain ⟨h2, g2, d2, t2, os3⟩ := s2
      exact ⟨rv, mk_end rs I1 up old un2 hok2 os2 bare2 ea ed hd1 q2⟩
    | next => exact False.elim hq2
    | brk => exact False.elim hq2
    | cont => exact False.elim hq2
end
end Qj
namespace Qj
open PySem PySem.Spec PyProof.Rows L2
/-! ### sums, differences, products of pairs -/
def pl (x y : Int × Int) : Int × Int := fr (x.1 * y.2 + y.1 * x.2) (x.2 * y.2)
def mi (x y : Int × Int) : Int × Int := fr (x.1 * y.2 - y.1 * x.2) (x.2 * y.2)
def ti (x y : Int × Int) : Int × Int := fr (x.1 * y.1) (x.2 * y.2)
def ov (x y : Int × Int) : Int × Int := fr (x.1 * y.2) (x.2 * y.1)
/-- small: both parts below 2 ^ k, the bottom above nought -/
structure Sm (k : Nat) (x : Int × Int) : Prop where
  t : x.1.natAbs < 2 ^ k
  b : x.2.natAbs < 2 ^ k
  p : 0 < x.2
theorem Sm.mono {j k : Nat} {x : Int × Int} (h : Sm j x) (hk : j ≤ k) : Sm k x := ⟨Nat.lt_of_lt_of_le h.t (Nat.pow_le_pow_right (by decide) hk), Nat.lt_of_lt_of_le h.b (Nat.pow_le_pow_right (by decide) hk), h.p⟩
theorem fr_pos {t b : Int} (hb : b ≠ 0) : 0 < (fr t b).2 := by
  unfold fr
  dsimp only
  have g := gcd_pos t hb
  have d := dvd_b t b
  split
  · rename_i h
    rw [Int.one_mul]
    exact Int.ediv_pos_of_pos_of_dvd h (by omega) d
  · rename_i h
    rw [Int.neg_mul, Int.one_mul]
    exact Int.ediv_pos_of_pos_of_dvd (by omega) (by omega) (Int.dvd_neg.mpr d)
theorem sm_fr {t b : Int} {k : Nat} (hb : b ≠ 0) (h1 : t.natAbs < 2 ^ k) (h2 : b.natAbs < 2 ^ k) : Sm k (fr t b) := ⟨(fr_lt hb h1 h2).1, (fr_lt hb h1 h2).2, fr_pos hb⟩
theorem mul_lt {i j : Int} {a b : Nat} (ha : i.natAbs < 2 ^ a) (hb : j.natAbs < 2 ^ b) : (i * j).natAbs < 2 ^ (a + b) := wide_lt ha hb
theorem mul_lt' {i j : Int} {a b : Nat} (ha : i.natAbs < 2 ^ a) (hb : j.natAbs < 2 ^ b) : (j * i).natAbs < 2 ^ (a + b) := by
  rw [Int.mul_comm]
  exact wide_lt ha hb
theorem add_lt {i j : Int} {a : Nat} (ha : i.natAbs < 2 ^ a) (hb : j.natAbs < 2 ^ a) : (i + j).natAbs < 2 ^ (a + 1) := by
  rw [Nat.pow_succ]
  omega
theorem sub_lt {i j : Int} {a : Nat} (ha : i.natAbs < 2 ^ a) (hb : j.natAbs < 2 ^ a) : (i - j).natAbs < 2 ^ (a + 1) := by
  rw [Nat.pow_succ]
  omega
theorem pow_up {n a b : Nat} (h : n < 2 ^ a) (hk : a ≤ b) : n < 2 ^ b := Nat.lt_of_lt_of_le h (Nat.pow_le_pow_right (by decide) hk)
section
variable {j k : Nat} {x y : Int × Int}
theorem bot_ne (h : Sm k x) (g : Sm j y) : x.2 * y.2 ≠ 0 := Int.ne_of_gt (Int.mul_pos h.p g.p)
theorem pl_t (h : Sm k x) (g : Sm j y) : (x.1 * y.2 + y.1 * x.2).natAbs < 2 ^ (k + j + 1) := add_lt (mul_lt h.t g.b) (mul_lt' h.b g.t)
theorem mi_t (h : Sm k x) (g : Sm j y) : (x.1 * y.2 - y.1 * x.2).natAbs < 2 ^ (k + j + 1) := sub_lt (mul_lt h.t g.b) (mul_lt' h.b g.t)
theorem pr_t (h : Sm k x) (g : Sm j y) : (x.1 * y.1).natAbs < 2 ^ (k + j + 1) := pow_up (mul_lt h.t g.t) (by omega)
theorem pr_b (h : Sm k x) (g : Sm j y) : (x.2 * y.2).natAbs < 2 ^ (k + j + 1) := pow_up (mul_lt h.b g.b) (by omega)
theorem sm_pl (h : Sm k x) (g : Sm j y) : Sm (k + j + 1) (pl x y) := sm_fr (bot_ne h g) (pl_t h g) (pr_b h g)
theorem sm_mi (h : Sm k x) (g : Sm j y) : Sm (k + j + 1) (mi x y) := sm_fr (bot_ne h g) (mi_t h g) (pr_b h g)
theorem sm_ti (h : Sm k x) (g : Sm j y) : Sm (k + j + 1) (ti x y) := sm_fr (bot_ne h g) (pr_t h g) (pr_b h g)
theorem ov_ne (h : Sm k x) (z : y.1 ≠ 0) : x.2 * y.1 ≠ 0 := Int.mul_ne_zero (Int.ne_of_gt h.p) z
theorem sm_ov (h : Sm k x) (g : Sm j y) (z : y.1 ≠ 0) : Sm (k + j + 1) (ov x y) := sm_fr (ov_ne h z) (pow_up (mul_lt h.t g.b) (by omega)) (pow_up (mul_lt h.b g.t) (by omega))
end
/-- the sign does not matter -/
theorem fr_neg {t b : Int} (hb : b ≠ 0) : fr (t * -1) (b * -1) = fr t b := by
  unfold fr
  have e : ∀ x : Int, (x * -1).natAbs = x.natAbs := fun x => by rw [Int.mul_neg, Int.mul_one, Int.natAbs_neg]
  rw [e, e]
  by_cases h : 0 < b
  · rw [if_pos h, if_neg (by omega)]
    have e2 : ∀ x : Int, -1 * (x * -1) = 1 * x := fun x => by omega
    rw [e2, e2]
  · rw [if_neg h, if_pos (by omega)]
    have e2 : ∀ x : Int, 1 * (x * -1) = -1 * x := fun x => by omega
    rw [e2, e2]
/-- over is times the turned one -/
theorem ov_ti {x y : Int × Int} {k : Nat} (h : Sm k x) (z : y.1 ≠ 0) (c : Nat.gcd y.1.natAbs y.2.natAbs = 1) : ti x (fr y.2 y.1) = ov x y := by
  have g : Nat.gcd y.2.natAbs y.1.natAbs = 1 := by rw [Nat.gcd_comm]; exact c
  unfold ti ov
  by_cases s : 0 < y.1
  · have e : fr y.2 y.1 = (y.2, y.1) := by
      unfold fr
      rw [g, if_pos s]
      show (1 * y.2 / 1, 1 * y.1 / 1) = (y.2, y.1)
      rw [Int.one_mul, Int.one_mul, Int.ediv_one, Int.ediv_one]
    rw [e]
  · have e : fr y.2 y.1 = (y.2 * -1, y.1 * -1) := by
      unfold fr
      rw [g, if_neg s]
      show (-1 * y.2 / 1, -1 * y.1 / 1) = (y.2 * -1, y.1 * -1)
      rw [Int.ediv_one, Int.ediv_one, Int.mul_comm, Int.mul_comm (-1) y.1]
    rw [e]
    show fr (x.1 * (y.2 * -1)) (x.2 * (y.1 * -1)) = fr (x.1 * y.2) (x.2 * y.1)
    rw [← Int.mul_assoc, ← Int.mul_assoc, fr_neg (ov_ne h z)]
/-- fr is in lowest terms -/
theorem fr_gcd {t b : Int} (hb : b ≠ 0) : Nat.gcd (fr t b).1.natAbs (fr t b).2.natAbs = 1 := by
  have g := gcd_pos t hb
  have key : ∀ x : Int, ((Nat.gcd t.natAbs b.natAbs : Nat) : Int) ∣ x → ((if 0 < b then 1 else -1) * x / ((Nat.gcd t.natAbs b.natAbs : Nat) : Int)).natAbs = x.natAbs / Nat.gcd t.natAbs b.natAbs := by
    intro x d
    have d2 : ((Nat.gcd t.natAbs b.natAbs : Nat) : Int) ∣ (if 0 < b then 1 else -1) * x := Int.dvd_mul_of_dvd_right d
    rw [Int.natAbs_ediv_of_dvd d2, Int.natAbs_natCast, Int.natAbs_mul]
    have e : (if 0 < b then 1 else -1 : Int).natAbs = 1 := by split <;> rfl
    rw [e, Nat.one_mul]
  unfold fr
  dsimp only
  rw [key t (dvd_t t b), key b (dvd_b t b)]
  rw [Nat.gcd_div (Nat.gcd_dvd_left _ _) (Nat.gcd_dvd_right _ _), Nat.div_self g]
/-- compare, the law's and the program's -/
def cmpV (x y : Int × Int) : Int := if x.1 * y.2 < y.1 * x.2 then -1 else if y.1 * x.2 < x.1 * y.2 then 1 else 0
theorem cmp_eq (x y : Int × Int) : (if decide (0 < x.1 * y.2 - y.1 * x.2) then (1 : Int) else 0) - (if decide (x.1 * y.2 - y.1 * x.2 < 0) then (1 : Int) else 0) = cmpV x y := by
  unfold cmpV
  by_cases h1 : x.1 * y.2 < y.1 * x.2
  · rw [if_pos h1, decide_eq_true (show x.1 * y.2 - y.1 * x.2 < 0 by omega), decide_eq_false (show ¬ 0 < x.1 * y.2 - y.1 * x.2 by omega)]
    rfl
  · by_cases h2 : y.1 * x.2 < x.1 * y.2
    · rw [if_neg h1, if_pos h2, decide_eq_true (show 0 < x.1 * y.2 - y.1 * x.2 by omega), decide_eq_false (show ¬ x.1 * y.2 - y.1 * x.2 < 0 by omega)]
      rfl
    · rw [if_neg h1, if_neg h2, decide_eq_false (show ¬ 0 < x.1 * y.2 - y.1 * x.2 by omega), decide_eq_false (show ¬ x.1 * y.2 - y.1 * x.2 < 0 by omega)]
      rfl
/-! ### promises -/
def spBin (op : Int × Int → Int × Int → Int × Int) : Sp := fun vs H Q _ => ∃ (p q : Addr) (x y : Int × Int) (k : Nat), vs = [.ref p, .ref q] ∧ H p = some (frV x) ∧ H q = some (frV y) ∧ Sm k x ∧ Sm 62 y ∧ k ≤ 700 ∧ ∀ r H', H r = none → Evl.Ex H H' → H' r = some (frV (op x y)) → Q (.ref r) H'
def spOver (C : Addr) : Sp := fun vs H Q E => ∃ (p q : Addr) (x y : Int × Int), vs = [.ref p, .ref q] ∧ H p = some (frV x) ∧ H q = some (frV y) ∧ Sm 62 x ∧ Sm 62 y ∧ (y.1 = 0 → E (.ref C) none H) ∧ (y.1 ≠ 0 → ∀ r H', H r = none → Evl.Ex H H' → H' r = some (frV (ov x y)) → Q (.ref r) H')
def spCmp : Sp := fun vs H Q _ => ∃ (p q : Addr) (x y : Int × Int), vs = [.ref p, .ref q] ∧ H p = some (frV x) ∧ H q = some (frV y) ∧ Sm 62 x ∧ Sm 62 y ∧ Q (.int (cmpV x y)) H
def spFloor : Sp := fun vs H Q _ => ∃ (p : Addr) (x : Int × Int), vs = [.ref p] ∧ H p = some (frV x) ∧ Sm 62 x ∧ Q (.int (x.1 / x.2)) H
def spPart : Sp := fun vs H Q _ => ∃ (p : Addr) (x : Int × Int), vs = [.ref p] ∧ H p = some (frV x) ∧ Sm 62 x ∧ ∀ r H', H r = none → Evl.Ex H H' → H' r = some (frV (x.1 % x.2, x.2)) → Q (.ref r) H'
/-- many pairs, one behind another -/
inductive FrL (H : Hp) : List V → List (Int × Int) → Prop where
  | nil : FrL H [] []
  | cons {p : Addr} {x : Int × Int} {vs : List V} {xs : List (Int × Int)} : H p = some (frV x) → Sm 62 x → FrL H vs xs → FrL H (.ref p :: vs) (x :: xs)
theorem FrL.ex {H H' : Hp} (e : Evl.Ex H H') : ∀ {vs : List V} {xs : List (Int × Int)}, FrL H vs xs → FrL H' vs xs
  | _, _, .nil => .nil
  | _, _, .cons h s t => .cons (e _ _ h) s (t.ex e)
theorem FrL.len {H : Hp} : ∀ {vs : List V} {xs : List (Int × Int)}, FrL H vs xs → vs.length = xs.length
  | _, _, .nil => rfl
  | _, _, .cons _ _ t => congrArg Nat.succ t.len
theorem FrL.at {H : Hp} : ∀ {vs : List V} {xs : List (Int × Int)} {i : Nat} {v : V}, FrL H vs xs → vs[i]? = some v → ∃ p x, v = .ref p ∧ xs[i]? = some x ∧ H p = some (frV x) ∧ Sm 62 x
  | _, _, _, _, .nil, h => by simp at h
  | _, _, 0, _, .cons h s _, e => by
    simp at e
    subst e
    exact ⟨_, _, rfl, rfl, h, s⟩
  | _, _, i + 1, _, .cons _ _ t, e => by
    simp at e
    obtain ⟨p, x, a, b, c, d⟩ := t.at e
    exact ⟨p, x, a, by simpa using b, c, d⟩
theorem FrL.app {H : Hp} {vs ws : List V} {xs ys : List (Int × Int)} (h : FrL H vs xs) (g : FrL H ws ys) : FrL H (vs ++ ws) (xs ++ ys) := by
  induction h with
  | nil => exact g
  | cons a b _ ih => exact .cons a b ih
theorem FrL.take {H : Hp} : ∀ {vs : List V} {xs : List (Int × Int)} (n : Nat), FrL H vs xs → FrL H (vs.take n) (xs.take n)
  | _, _, 0, _ => .nil
  | _, _, _ + 1, .nil => .nil
  | _, _, n + 1, .cons h s t => .cons h s (t.take n)
theorem FrL.drop {H : Hp} : ∀ {vs : List V} {xs : List (Int × Int)} (n : Nat), FrL H vs xs → FrL H (vs.drop n) (xs.drop n)
  | _, _, 0, h => h
  | _, _, _ + 1, .nil => .nil
  | _, _, n + 1, .cons _ _ t => t.drop n
def tot (xs : List (Int × Int)) : Int × Int := xs.foldl pl (0, 1)
theorem tot_step {xs : List (Int × Int)} {i : Nat} {x : Int × Int} (h : xs[i]? = some x) : tot (xs.take (i + 1)) = pl (tot (xs.take i)) x := by
  unfold tot
  rw [List.take_add_one, h, List.foldl_append]
  rfl
theorem sm_tot : ∀ (xs : List (Int × Int)), (∀ x ∈ xs, Sm 62 x) → Sm (1 + 63 * xs.length) (tot xs) := by
  have key : ∀ (xs : List (Int × Int)) (a : Int × Int) (k : Nat), Sm k a → (∀ x ∈ xs, Sm 62 x) → Sm (k + 63 * xs.length) (xs.foldl pl a) := by
    intro xs
    induction xs with
    | nil => intro a k h _; exact h
    | cons x r ih =>
      intro a k h g
      have s := ih (pl a x) (k + 62 + 1) (sm_pl h (g x (List.mem_cons_self ..))) (fun y hy => g y (List.mem_cons_of_mem _ hy))
      rw [List.length_cons]
      exact s.mono (by omega)
  exact fun xs h => key xs (0, 1) 1 ⟨by decide, by decide, by decide⟩ h
theorem FrL.sm {H : Hp} : ∀ {vs : List V} {xs : List (Int × Int)}, FrL H vs xs → ∀ x ∈ xs, Sm 62 x
  | _, _, .nil, _, h => by cases h
  | _, _, .cons _ s t, x, h => by
    rcases List.mem_cons.mp h with e | e
    · rw [e]; exact s
    · exact t.sm x e
def spTotal : Sp := fun vs H Q _ => ∃ xs : List (Int × Int), FrL H vs xs ∧ xs.length ≤ 10 ∧ ∀ r H', H r = none → Evl.Ex H H' → H' r = some (frV (tot xs)) → Q (.ref r) H'
section
variable {X : Cx} {CX : CXT} {k : Nat} {f : Addr} {sp : Sp} {E : XK} {x : Str} {p pos : Pos} {e : Expr} {es : List Expr} {t : TA}
theorem run_r {pins : List (Addr × Obj)} {σ : L2.St} {H : Hp} {s : Shared} {Q : VK} {us : List Value} {as : List V} (F : FnR X.prog X.w X.K X.mg X.base CX k f sp) (rm : Room k X.A)
    (hx : Passes CX X E) (I : Inv X pins σ H s) (r : Vals as us) (h : sp as H Q E) : wpAny (model X.prog X.w) X.A (call (.ref f) us) (EP X pins σ Q) X.xe s := by
  have c := F X.A X.stack s H us as Q E rm I.env0 r h
  refine wpAny_call (codeAny_mono c (fun r2 s2 hq => ?_))
  cases r2 with
  | error e2 => exact hx pins σ H s e2 s2 I hq
  | ok fl =>
    cases fl with
    | ret u => exact I.after hq
    | next => exact hq.elim
    | brk => exact hq.elim
    | cont => exact hq.elim
theorem pe_callR (F : FnR X.prog X.w X.K X.mg X.base CX k f sp) (rm : Room k X.A) (hg : Gl X x) (hm : X.mg x = some (.ref f)) (kp : PySem.W.keepIn X.K (.ref f) = true) (hx : Passes CX X E)
    (ha : PA X (e :: es) t) (h1 : (x == ("__debug__" : Str)) = false := by decide) (h2 : starEach (e :: es) X.env = (false, eval e X.env) :: starEach es X.env := by rfl) (h3 : (backTo pos (starEach es X.env)).any (·.1) = false := by rfl) :
    PE X (.Call (.Name x p) (e :: es) [] pos) (tCall sp [] E t) := by
  constructor
  intro pins s σ H Q I h
  refine wpAny_Call_Name_kw (ld_glob I hg hm ?_ h1)
  exact PySem.W.callWith_K (h₀ := X.base) I.ok.mod.kin kp (thn (ha.run pos pins s σ H _ I h) (fun us s1 z => by
    obtain ⟨vs, H1, I1, r, q⟩ := z
    rw [List.append_nil] at q
    exact ⟨I1.kIn, run_r F rm hx I1 r q⟩)) h2 h3
theorem pe_callR0 (F : FnR X.prog X.w X.K X.mg X.base CX k f sp) (rm : Room k X.A) (hg : Gl X x) (hm : X.mg x = some (.ref f)) (kp : PySem.W.keepIn X.K (.ref f) = true) (hx : Passes CX X E)
    (h1 : (x == ("__debug__" : Str)) = false := by decide) : PE X (.Call (.Name x p) [] [] pos) (tCall sp [] E tNil) := by
  constructor
  intro pins s σ H Q I h
  refine wpAny_Call_Name_kw (ld_glob I hg hm ?_ h1)
  exact PySem.W.callWith_K0 I.kIn kp (run_r (us := []) F rm hx I .nil h)
end
end Qj
namespace Qj
open PySem PySem.Spec PyProof.Rows L2
/-! ### values of any depth that stand still while the deck at D changes -/
mutual
inductive Dt (K : PySem.W.Frag) (D : Addr) (H : Hp) : V → PyData → Prop
  | non : Dt K D H .non .none
  | bl (b : Bool) : Dt K D H (.bl b) (.bool b)
  | int (i : Int) : Dt K D H (.int i) (.int i)
  | str (x : Str) : Dt K D H (.str x) (.str x)
  | tup {a : Addr} {xs : List V} {ds : List PyData} (h : SqT K H a xs) (g : DtA K D H xs ds) : Dt K D H (.ref a) (.tuple ds)
  | lst {a : Addr} {xs : List V} {ds : List PyData} (n : a ≠ D) (h : H a = some (.lst xs)) (g : DtA K D H xs ds) : Dt K D H (.ref a) (.list ds)
  | dic {a : Addr} (h : H a = some (.dK [])) : Dt K D H (.ref a) (.dict [])
inductive DtA (K : PySem.W.Frag) (D : Addr) (H : Hp) : List V → List PyData → Prop
  | nil : DtA K D H [] []
  | cons {v : V} {vs : List V} {d : PyData} {ds : List PyData} (h : Dt K D H v d) (t : DtA K D H vs ds) : DtA K D H (v :: vs) (d :: ds)
end
/-- what such values stand on stays -/
structure Kp (K : PySem.W.Frag) (D : Addr) (H H' : Hp) : Prop where
  t : ∀ a xs, SqT K H a xs → SqT K H' a xs
  l : ∀ a xs, a ≠ D → H a = some (.lst xs) → H' a = some (.lst xs)
  d : ∀ a, H a = some (.dK []) → H' a = some (.dK [])
section
variable {K : PySem.W.Frag} {D : Addr} {H H' H2 : Hp}
mutual
theorem Dt.kp (k : Kp K D H H') : ∀ (d : PyData) {v : V}, Dt K D H v d → Dt K D H' v d
  | .none, _, h => by cases h; exact .non
  | .bool b, _, h => by cases h; exact .bl b
  | .int i, _, h => by cases h; exact .int i
  | .str x, _, h => by cases h; exact .str x
  | .tuple ds, _, h => by
    cases h with
    | tup h g => exact .tup (k.t _ _ h) (DtA.kp k ds g)
  | .list ds, _, h => by
    cases h with
    | lst n h g => exact .lst n (k.l _ _ n h) (DtA.kp k ds g)
  | .dict ds, _, h => by
    cases h with
    | dic h => exact .dic (k.d _ h)
theorem DtA.kp (k : Kp K D H H') : ∀ (ds : List PyData) {vs : List V}, DtA K D H vs ds → DtA K D H' vs ds
  | [], _, h => by cases h; exact .nil
  | d :: ds, _, h => by
    cases h with
    | cons h t => exact .cons (Dt.kp k d h) (DtA.kp k ds t)
end
theorem sqT_ex (e : Evl.Ex H H') {a : Addr} {xs : List V} (h : SqT K H a xs) : SqT K H' a xs := by
  rcases h with (h | ⟨o, h⟩) | h
  · exact .inl (.inl (e _ _ h))
  · exact .inl (.inr ⟨o, e _ _ h⟩)
  · exact .inr h
theorem Kp.ex (e : Evl.Ex H H') : Kp K D H H' := ⟨fun _ _ h => sqT_ex e h, fun _ _ _ h => e _ _ h, fun _ h => e _ _ h⟩
theorem sqT_bu (d : DeckAt H D) (b : Bu D H H') {a : Addr} {xs : List V} (h : SqT K H a xs) : SqT K H' a xs := by
  obtain ⟨g, m, c, hD, _⟩ := d
  rcases h with (h | ⟨o, h⟩) | h
  · exact .inl (.inl (b _ _ (fun z => by subst z; rw [hD] at h; cases h) h))
  · exact .inl (.inr ⟨o, b _ _ (fun z => by subst z; rw [hD] at h; cases h) h⟩)
  · exact .inr h
theorem Kp.bu (d : DeckAt H D) (b : Bu D H H') : Kp K D H H' := ⟨fun _ _ h => sqT_bu d b h, fun _ _ n h => b _ _ n h, fun a h => b _ _ (fun z => by
  obtain ⟨g, m, c, hD, _⟩ := d
  subst z
  rw [hD] at h
  cases h) h⟩
theorem Dt.ex {v : V} {d : PyData} (h : Dt K D H v d) (e : Evl.Ex H H') : Dt K D H' v d := h.kp (.ex e)
theorem DtA.ex {v : List V} {d : List PyData} (h : DtA K D H v d) (e : Evl.Ex H H') : DtA K D H' v d := h.kp (.ex e)
theorem Dt.bu {v : V} {d : PyData} (h : Dt K D H v d) (k : DeckAt H D) (b : Bu D H H') : Dt K D H' v d := h.kp (.bu k b)
theorem DtA.bu {v : List V} {d : List PyData} (h : DtA K D H v d) (k : DeckAt H D) (b : Bu D H H') : DtA K D H' v d := h.kp (.bu k b)
mutual
/-- no list in it -/
def noL : PyData → Bool
  | .tuple ds => noLA ds
  | .list _ => false
  | .dict _ => false
  | _ => true
def noLA : List PyData → Bool
  | [] => true
  | d :: ds => noL d && noLA ds
end
mutual
theorem Dt.only {E : Addr} (k : ∀ a xs, SqT K H a xs → SqT K H' a xs) : ∀ (d : PyData) {v : V}, noL d = true → Dt K D H v d → Dt K E H' v d
  | .none, _, _, h => by cases h; exact .non
  | .bool b, _, _, h => by cases h; exact .bl b
  | .int i, _, _, h => by cases h; exact .int i
  | .str x, _, _, h => by cases h; exact .str x
  | .tuple ds, _, n, h => by
    cases h with
    | tup h g => exact .tup (k _ _ h) (DtA.only k ds (by simpa only [noL] using n) g)
  | .list ds, _, n, h => by simp only [noL] at n; cases n
  | .dict ds, _, n, h => by simp only [noL] at n; cases n
theorem DtA.only {E : Addr} (k : ∀ a xs, SqT K H a xs → SqT K H' a xs) : ∀ (ds : List PyData) {vs : List V}, noLA ds = true → DtA K D H vs ds → DtA K E H' vs ds
  | [], _, _, h => by cases h; exact .nil
  | d :: ds, _, n, h => by
    simp only [noLA, Bool.and_eq_true] at n
    cases h with
    | cons h t => exact .cons (Dt.only k d n.1 h) (DtA.only k ds n.2 t)
end
theorem sqT_lst {F : Addr} {ys : List V} {o : HO} (hF : H F = some (.lst ys)) {a : Addr} {xs : List V} (h : SqT K H a xs) : SqT K (upd H F o) a xs := by
  rcases h with (h | ⟨q, h⟩) | h
  · exact .inl (.inl (by rw [upd_ne (fun z => by subst z; rw [hF] at h; cases h)]; exact h))
  · exact .inl (.inr ⟨q, by rw [upd_ne (fun z => by subst z; rw [hF] at h; cases h)]; exact h⟩)
  · exact .inr h
theorem Dt.ty {v : V} {d : PyData} (h : Dt K D H v d) : ∃ k : Kd, TyX K H v (.type k.nm) ∧ (k == .tup) = (match d with | .tuple _ => true | _ => false) ∧ k.isInt = (match d with | .int _ => true | _ => false) ∧ (k == .bl) = (match d with | .bool _ => true | _ => false) ∧ (k == .str) = (match d with | .str _ => true | _ => false) := by
  cases h with
  | non => exact ⟨.non, .base .non, rfl, rfl, rfl, rfl⟩
  | bl b => exact ⟨.bl, .base (.bl b), rfl, rfl, rfl, rfl⟩
  | int i => exact ⟨.int, .base (.int i), rfl, rfl, rfl, rfl⟩
  | str x => exact ⟨.str, .base (.str x), rfl, rfl, rfl, rfl⟩
  | tup h g =>
    refine ⟨.tup, ?_, rfl, rfl, rfl, rfl⟩
    rcases h with (h | ⟨o, h⟩) | ⟨o, its, n, h, c, _⟩
    · exact .base (.tup h)
    · exact .fTuple h
    · exact .kTuple h c
  | lst n h g => exact ⟨.lst, .base (.lst h), rfl, rfl, rfl, rfl⟩
  | dic h => exact ⟨.dic, .base (.dK h), rfl, rfl, rfl, rfl⟩
mutual
theorem Dt.dp : ∀ (d : PyData) {v : V}, d.hasDict = false → Dt K D H v d → Dp K H v d
  | .none, _, _, h => by cases h; exact .non
  | .bool b, _, _, h => by cases h; exact .bl b
  | .int i, _, _, h => by cases h; exact .int i
  | .str x, _, _, h => by cases h; exact .str x
  | .tuple ds, _, n, h => by
    cases h with
    | tup h g => exact .tup h (DtA.dp ds (by simpa only [PyData.hasDict] using n) g)
  | .list ds, _, n, h => by
    cases h with
    | lst _ h g => exact .lst (.of h) (DtA.dp ds (by simpa only [PyData.hasDict] using n) g)
  | .dict ds, _, n, h => by simp only [PyData.hasDict] at n; cases n
theorem DtA.dp : ∀ (ds : List PyData) {vs : List V}, PyData.hasDictAll ds = false → DtA K D H vs ds → DpAll K H vs ds
  | [], _, _, h => by cases h; exact .nil
  | d :: ds, _, n, h => by
    simp only [PyData.hasDictAll, Bool.or_eq_false_iff] at n
    cases h with
    | cons h t => exact .cons (Dt.dp d n.1 h) (DtA.dp ds n.2 t)
end
theorem DtA.len : ∀ {vs : List V} {ds : List PyData}, DtA K D H vs ds → vs.length = ds.length
  | _, [], h => by cases h; rfl
  | _, d :: ds, h => by
    cases h with
    | cons _ t => exact congrArg Nat.succ t.len
theorem DtA.app : ∀ {vs ws : List V} {ds es : List PyData}, DtA K D H vs ds → DtA K D H ws es → DtA K D H (vs ++ ws) (ds ++ es)
  | _, _, [], _, h, g => by cases h; exact g
  | _, _, d :: ds, _, h, g => by
    cases h with
    | cons h t => exact .cons h (t.app g)
theorem DtA.take : ∀ {vs : List V} {ds : List PyData} (n : Nat), DtA K D H vs ds → DtA K D H (vs.take n) (ds.take n)
  | _, _, 0, _ => .nil
  | _, [], n + 1, h => by cases h; exact .nil
  | _, d :: ds, n + 1, h => by
    cases h with
    | cons h t => exact .cons h (t.take n)
theorem DtA.drop : ∀ {vs : List V} {ds : List PyData} (n : Nat), DtA K D H vs ds → DtA K D H (vs.drop n) (ds.drop n)
  | _, _, 0, h => h
  | _, [], n + 1, h => by cases h; exact .nil
  | _, d :: ds, n + 1, h => by
    cases h with
    | cons h t => exact t.drop n
theorem DtA.at : ∀ {vs : List V} {ds : List PyData} {i : Nat} {v : V}, DtA K D H vs ds → vs[i]? = some v → ∃ d, ds[i]? = some d ∧ Dt K D H v d
  | _, [], _, _, h, e => by cases h; cases e
  | _, d :: ds, 0, _, h, e => by
    cases h with
    | cons h t => cases e; exact ⟨d, rfl, h⟩
  | _, d :: ds, i + 1, _, h, e => by
    cases h with
    | cons h t => exact t.at e
theorem DtA.one {v : V} {d : PyData} (h : Dt K D H v d) : DtA K D H [v] [d] := .cons h .nil
theorem Dt.fr {p : Addr} {x : Int × Int} (h : H p = some (frV x)) : Dt K D H (.ref p) (frD x) := .tup (SqT.of h) (.cons (.int _) (.cons (.int _) .nil))
end
/-! ### what a scale is -/
structure Scl where
  nm : Str
  tn : Int
  fo : Int × Int
def Scl.d (s : Scl) : PyData := .tuple [.str s.nm, .int s.tn, frD s.fo]
/-- a mantissa: from nought to below one, in lowest terms, its bottom not large -/
structure Mant (x : Int × Int) : Prop where
  lo : 0 ≤ x.1
  hi : x.1 < x.2
  g : Nat.gcd x.1.natAbs x.2.natAbs = 1
  b : x.2 ≤ 10 ^ 9
structure Cap (x : Str) : Prop where
  lo : 1 ≤ x.cps.size
  hi : x.cps.size ≤ 3
  all : ∀ c ∈ x.cps.toList, 65 ≤ c ∧ c ≤ 90
structure Scl.Ok (s : Scl) : Prop where
  n : Cap s.nm
  t0 : s.tn ≠ 0
  t1 : -3 ≤ s.tn
  t2 : s.tn ≤ 3
  m : Mant s.fo
theorem Mant.sm {x : Int × Int} (m : Mant x) : Sm 40 x := by
  have := m.lo
  have := m.hi
  have := m.b
  exact ⟨by omega, by omega, by omega⟩
end Qj
namespace Qj
open PySem PySem.Spec PyProof.Rows L2
/-! ### sets of texts that can be walked and sorted -/
/-- what an exact set of n elements has, its elements told by F whatever their order -/
def SetG (F : List (Int × Value) → Prop) (w : World) (h : Heap) (a : Addr) (n : Nat) : Prop :=
  ∃ (o : Obj) (es : Array (Int × Value)) (ep : Nat) (t : SetTable), h.get? a = some o ∧ (o.ExactSet ∧ o.data = .set es ep t) ∧ F es.toList ∧ (es.size < scanBound ∧ t.fits es.size = true ∧ es.size = n) ∧ Ris t.place.toList ∧ (w.params.followText "set-order" = true ∨ t.led = true)
section
variable {P : Program} {w : World} {A : Around} {E : Value → Shared → Prop} {s : Shared} {a : Addr}
/-- an element more is stored, the table laid anew if it is too full -/
theorem setG_store {F : List (Int × Value) → Prop} (hF : ∀ l m, List.Perm l m → F l → F m) {g : Bool → Sem Unit} (hg : ∀ (b : Bool) (s1 : Shared) (Q1 : Unit → Shared → Prop), Q1 () s1 → wpAny (model P w) A (g b) Q1 E s1)
    {o : Obj} {es es1 : Array (Int × Value)} {ep : Nat} {t t1 : SetTable} (ho : s.heap.get? a = some o) (hx : o.ExactSet ∧ o.data = .set es ep t) (f1 : F es1.toList) (few : es1.size < scanBound) (fit : t1.fits es1.size = true) (ris : Ris t1.place.toList)
    (led : w.params.followText "set-order" = true ∨ t1.led = true) {wd : Bool} {R : Option Bool → Shared → Prop} (fin : ∀ h2, Heap.SameBut a s.heap h2 → SetG F w h2 a es1.size → R (some true) { s with heap := h2 }) :
    wpAny (model P w) A (do
        storeSet a es1 t1
        if (!wd && t1.tooFull) = true then do
            g (relayAll t1 es1 (SetTable.grown es1.size)).2.2
            storeSet a (relayAll t1 es1 (SetTable.grown es1.size)).1 (relayAll t1 es1 (SetTable.grown es1.size)).2.1
            pure (some true)
          else pure (some true)) R E s := by
  refine wpAny_bind (wpAny_storeSet_of ho hx.2 ?_ (fits_of_scanBound few))
  have at1 := PpSet.storeB_at (es' := es1) (t' := t1) ho hx.2
  have same1 := Heap.SameBut.update s.heap a (Obj.putSet es1 t1)
  split
  · have pm := relayAll_perm t1 es1 (SetTable.grown es1.size)
    have c1 := relayAll_fits t1 es1 (SetTable.grown es1.size)
    have c2 := relayAll_ris t1 es1 (SetTable.grown es1.size)
    have c3 := relayAll_led t1 es1 (SetTable.grown es1.size)
    generalize relayAll t1 es1 (SetTable.grown es1.size) = Z at pm c1 c2 c3 ⊢
    obtain ⟨es2, t2, gv⟩ := Z
    dsimp only at pm c1 c2 c3 ⊢
    have z2 : es2.size = es1.size := by rw [← Array.length_toList, pm.length_eq, Array.length_toList]
    refine wpAny_bind (hg _ _ _ (wpAny_bind (wpAny_storeSet_of at1 rfl ?_ (fits_of_scanBound (by rw [z2]; exact few)))))
    have at2 := PpSet.storeB_at (es' := es2) (t' := t2) at1 rfl
    exact wpAny_pure (fin _ (same1.trans (Heap.SameBut.update _ a _)) ⟨_, es2, _, t2, at2, ⟨hx.1, rfl⟩, hF _ _ pm.symm f1, ⟨by rw [z2]; exact few, c1, z2⟩, c2, led.imp id fun y => by rw [c3]; exact y⟩)
  · exact wpAny_pure (fin _ same1 ⟨_, es1, _, t1, at1, ⟨hx.1, rfl⟩, f1, ⟨few, fit, rfl⟩, ris, led⟩)
/-- the elements of the keys of S, each once -/
structure KF {κ : Type} [DecidableEq κ] (knd : KeyKind P w κ) (S : κ → Bool) (l : List (Int × Value)) : Prop where
  el : ElemsOf knd l
  mem : ∀ k, S k = true ↔ ∃ e ∈ l, knd.is k e.2 = true
  ap : l.Pairwise fun e f => ∀ k, (knd.is k e.2 && knd.is k f.2) = false
section
variable {κ : Type} [DecidableEq κ] {knd : KeyKind P w κ} {S : κ → Bool} {n : Nat}
theorem KF.perm (l m : List (Int × Value)) (p : l.Perm m) (f : KF knd S l) : KF knd S m :=
  ⟨fun e he => f.el e (p.mem_iff.mpr he), fun k => (f.mem k).trans ⟨fun ⟨e, he, z⟩ => ⟨e, p.mem_iff.mp he, z⟩, fun ⟨e, he, z⟩ => ⟨e, p.mem_iff.mpr he, z⟩⟩, (p.pairwise_iff fun {x y} h k => by rw [Bool.and_comm]; exact h k).mp f.ap⟩
theorem KF.cons {l : List (Int × Value)} {k : κ} {u : Value} (f : KF knd S l) (hu : knd.is k u = true) (sc : u.scannable = true) (no : S k = false) : KF knd (fun j => S j || decide (j = k)) ((knd.hash k, u) :: l) := by
  have only : ∀ j, knd.is j u = true → j = k := fun j hj => knd.inj u j k hj hu
  refine ⟨fun e he => ?_, fun j => ?_, List.pairwise_cons.mpr ⟨fun e he j => ?_, f.ap⟩⟩
  · rcases List.mem_cons.mp he with z | z
    · rw [z]
      exact ⟨⟨k, hu, rfl⟩, sc⟩
    · exact f.el e z
  · rw [Bool.or_eq_true, decide_eq_true_eq, f.mem j]
    constructor
    · rintro (⟨e, he, z⟩ | rfl)
      · exact ⟨e, List.mem_cons_of_mem _ he, z⟩
      · exact ⟨_, List.mem_cons_self .., hu⟩
    · rintro ⟨e, he, z⟩
      rcases List.mem_cons.mp he with y | y
      · rw [y] at z
        exact .inr (only j z)
      · exact .inl ⟨e, y, z⟩
  · cases c : knd.is j u && knd.is j e.2 with
    | false => rfl
    | true =>
      rw [Bool.and_eq_true] at c
      have ej := only j c.1
      subst ej
      have := (f.mem j).mpr ⟨e, he, c.2⟩
      rw [no] at this
      cases this
theorem setG_add_hashed {k : κ} {u : Value} {Q : Bool → Shared → Prop} (R : SetG (KF knd S) w s.heap a n) (room : n + 1 < scanBound) (hu : knd.is k u = true) (sc : u.scannable = true)
    (fin : ∀ h2, Heap.SameBut a s.heap h2 → SetG (KF knd fun j => S j || decide (j = k)) w h2 a (if S k = true then n else n + 1) → Q (!S k) { s with heap := h2 }) : wpAny (model P w) A (setAddHashed a u (knd.hash k)) Q E s := by
  obtain ⟨o, es, ep, t, ho, ⟨hx, hd⟩, f, ⟨few, fit, num⟩, ris, led⟩ := R
  unfold setAddHashed setAddHashedIn
  refine wpAny_holding (wpAny_bind (wpAny_setState_of ho hd fit ?_))
  dsimp only
  rw [byScan_of sc few f.el]
  simp only [↓reduceIte]
  unfold setAddByScan
  refine wpAny_bind (wpAny_bind (wpAny_rule (wpAny_bind (wpAny_setScan_of hu ho hd fit f.el ?_))))
  cases hfi : List.findIdx? (fun e => knd.is k e.2) es.toList with
  | some j =>
    dsimp only
    obtain ⟨hj, pj, _⟩ := List.findIdx?_eq_some_iff_getElem.mp hfi
    have yes : S k = true := (f.mem k).mpr ⟨es.toList[j], List.getElem_mem hj, pj⟩
    have same : (fun j => S j || decide (j = k)) = S := funext fun i => by
      by_cases e : i = k
      · rw [e, yes, Bool.true_or]
      · rw [decide_eq_false e, Bool.or_false]
    have q := fin s.heap (Heap.SameBut.refl a s.heap) ⟨o, es, ep, t, ho, ⟨hx, hd⟩, by rw [same]; exact f, ⟨few, fit, by rw [if_pos yes]; exact num⟩, ris, led⟩
    rw [yes] at q
    exact wpAny_pure (wpAny_pure q)
  | none =>
    dsimp only
    have no : S k = false := Bool.eq_false_iff.mpr fun z => by
      obtain ⟨e, he, y⟩ := (f.mem k).mp z
      have c := List.findIdx?_eq_none_iff.mp hfi e he
      rw [y] at c
      cases c
    have way : ∀ (b : Bool) {s1 : Shared} {Q1 : Unit → Shared → Prop}, Q1 () s1 → wpAny (model P w) A (match b with | true => rule "set.scan.the-table-gave-way" | false => pure ()) Q1 E s1 := fun b s1 Q1 q => by
      cases b with
      | true => exact wpAny_rule q
      | false => exact wpAny_pure q
    have pm := layNew_perm t es (knd.hash k) u
    have c1 := layNew_fits t es (knd.hash k) u
    have c2 := layNew_ris t es (knd.hash k) u ris
    have c3 := layNew_led t es (knd.hash k) u
    generalize layNew t es (knd.hash k) u = Z at pm c1 c2 c3 ⊢
    obtain ⟨es1, t1, wd, gv⟩ := Z
    dsimp only at pm c1 c2 c3 ⊢
    rw [Array.toList_push] at pm
    have pc : es1.toList.Perm ((knd.hash k, u) :: es.toList) := pm.trans (List.perm_append_singleton _ _)
    have f1 : KF knd (fun j => S j || decide (j = k)) es1.toList := (f.cons hu sc no).perm _ _ pc.symm
    have z1 : es1.size = n + 1 := by rw [← Array.length_toList, pc.length_eq, List.length_cons, Array.length_toList, num]
    have few1 : es1.size < scanBound := by rw [z1]; exact room
    have led1 : w.params.followText "set-order" = true ∨ t1.led = true := led.imp id fun y => by rw [c3]; exact y
    have last : ∀ h2, Heap.SameBut a s.heap h2 → SetG (KF knd fun j => S j || decide (j = k)) w h2 a es1.size → Q true { s with heap := h2 } := fun h2 sb r => by
      have q := fin h2 sb
      rw [no] at q
      rw [z1] at r
      exact q r
    refine wpAny_bind (way _ ?_)
    split
    · refine wpAny_bind ?_
      rw [hashByValue_scannable 8 sc]
      refine wpAny_pure ?_
      refine setG_store KF.perm ?_ ho ⟨hx, hd⟩ f1 few1 ?_ ?_ ?_ ?_
      · intro b s1 Q1 q
        exact way b q
      · first | (split <;> first | exact c1 | exact SetTable.fits_plain_off c1) | exact c1
      · first | (split <;> exact c2) | exact c2
      · first | (split <;> exact led1) | exact led1
      · intro h2 sb r
        exact wpAny_pure (last h2 sb r)
    · refine wpAny_bind (wpAny_pure ?_)
      simp only [↓reduceIte]
      refine setG_store KF.perm ?_ ho ⟨hx, hd⟩ f1 few1 c1 c2 led1 ?_
      · intro b s1 Q1 q
        exact way b q
      · intro h2 sb r
        exact wpAny_pure (last h2 sb r)
end
end
end Qj
namespace Qj
open PySem PySem.Spec PyProof.Rows L2
/-- the set of keys at a, to be walked -/
def SetTO (P : Program) (w : World) (a : Addr) (S : Key → Bool) (n : Nat) : HO := .ext fun h => SetG (KF (mixKind P w) S) w h a n
section
variable {P : Program} {w : World} {A : Around} {E : Value → Shared → Prop} {s : Shared} {a : Addr} {S : Key → Bool} {n : Nat}
theorem setG_of {h : Heap} (R : SetG (KF (mixKind P w) S) w h a n) : h.SetOf (mixKind P w) a S n := by
  obtain ⟨o, es, ep, t, ho, ⟨hx, hd⟩, f, ⟨few, fit, num⟩, _⟩ := R
  exact ⟨o, es, ep, t, ho, hx, hd, f.el, f.mem, few, fit, num⟩
theorem setT_new {H : Hp} {h : Heap} (R : SetG (KF (mixKind P w) S) w h a n) : ObjOk P w H h a (SetTO P w a S n) := by
  refine ⟨R, ?_, fun h1 h2 r k => ?_⟩
  · obtain ⟨o, _, _, _, ho, _⟩ := R
    exact ⟨o, ho⟩
  · obtain ⟨o, es, ep, t, ho, z⟩ := r
    exact ⟨o, es, ep, t, k o ho, z⟩
theorem setG_fresh (h : Heap) : SetG (KF (mixKind P w) fun _ => false) w (h.push { cls := .type "set", dict := none, data := .set #[] 0 (.fresh 0 0 (!w.params.followText "set-order")) }) h.objs.size 0 := by
  refine ⟨_, #[], 0, _, Heap.get?_push_size _ rfl, ⟨⟨rfl, rfl, rfl⟩, rfl⟩, ⟨fun _ z => by simp at z, fun _ => by simp, .nil⟩, ⟨by decide, by rfl, rfl⟩, .nil, ?_⟩
  cases e : w.params.followText "set-order"
  · exact .inr rfl
  · exact .inl rfl
theorem setG_call {k : Key} {u : Value} {Q : Value → Shared → Prop} (R : SetG (KF (mixKind P w) S) w s.heap a n) (room : n + 1 < scanBound) (hu : (mixKind P w).is k u = true) (sc : u.scannable = true)
    (fin : ∀ h2, Heap.SameBut a s.heap h2 → SetG (KF (mixKind P w) fun j => S j || decide (j = k)) w h2 a (if S k = true then n else n + 1) → Q .none { s with heap := h2, toks := s.toks + 1 }) : wpAny (model P w) A (call (.builtin "set.add") [.ref a, u]) Q E s := by
  refine wpAny_call_entry F.slot_set_add (setG_of R).typeIs F.entry_set_add ?_ (F.args_set_add_2 _ _)
  unfold Builtin.«set.add» Builtin.Frozenset.oneOther
  simp only [List.isEmpty_nil, bind_assoc]
  unfold Builtin.Frozenset.addrOf setAdd
  refine wpAny_bind (wpAny_pure ?_)
  try dsimp only
  refine wpAny_bind (wpAny_pure ?_)
  try dsimp only
  refine wpAny_bind (wpAny_holding (wpAny_bind ((mixKind P w).pyHash hu (setG_add_hashed (s := { s with toks := s.toks + 1 }) R room hu sc fun h2 sb r => ?_))))
  exact wpAny_pure ⟨_, rfl, fin h2 sb r⟩
/-- the text of a value -/
def strOf : Value → Str
  | .str x _ => x
  | _ => Str.empty
theorem strs_of : ∀ (l : List Value), (∀ v ∈ l, ∃ x t, v = Value.str x t) → StrsAre l (l.map strOf)
  | [], _ => .nil
  | v :: l, h => by
    obtain ⟨x, t, rfl⟩ := h v List.mem_cons_self
    exact .cons x t (strs_of l fun u hu => h u (List.mem_cons_of_mem _ hu))
/-- sorted of such a set of texts -/
theorem sorted_texts {Q : Value → Shared → Prop} (R : SetG (KF (mixKind P w) S) w s.heap a n) (hh : A.handled = none) (txt : ∀ i : Int, S (Sum.inl i) = false)
    (fin : ∀ s2 p (out : Array Value) (c : Nat) (ys : List Str), (∀ b o, s.heap.get? b = some o → s2.heap.get? b = some o) → s2.gens = s.gens → s2.os = s.os → s.heap.objs.size ≤ p → s2.heap.get? p = some (seqObj "list" out c) → StrsAre out.toList ys →
      sortedS ys = true → ys.Nodup → (∀ x, x ∈ ys ↔ S (Sum.inr x) = true) → ys.length = n → Q (.ref p) s2) : wpAny (model P w) A (call (.builtin "sorted") [.ref a]) Q E s := by
  obtain ⟨o, es, ep, t, ho, ⟨hx, hd⟩, f, ⟨few, fit, num⟩, ris, led⟩ := R
  have shape : ∀ e ∈ es.toList, ∃ x t, e.2 = Value.str x t := fun e he => by
    obtain ⟨⟨k, hk, _⟩, _⟩ := f.el e he
    have sk := (f.mem k).mpr ⟨e, he, hk⟩
    rcases keyIs_shape (k := k) (v := e.2) hk with ⟨i, t, rfl, z⟩ | ⟨x, t, rfl, z⟩
    · rw [txt i] at sk
      cases sk
    · exact ⟨x, t, z⟩
  refine Calls.call_function_entry kind_sorted plain_sorted entry_sorted (args_sorted1 _) ?_
  unfold Builtin.«sorted»
  refine wpAny_bind (m := checkCount "sorted" 1 1 _) (wpAny_pure ?_)
  refine wpAny_bind (collect_set (A := A.in1) hh ⟨o, ho, hx.1, hd⟩ fit few ris led fun s1 vs k1 hz g1 o1 pm => ?_)
  have lv : vs.length = n := by rw [pm.length_eq, List.length_map, Array.length_toList, num]
  have small : vs.length ≤ sizeLine := by
    rw [pm.length_eq, List.length_map, Array.length_toList]
    exact fits_of_scanBound few
  have texts : StrsAre vs (vs.map strOf) := strs_of vs fun v hv => by
    obtain ⟨e, he, q⟩ := List.mem_map.mp (pm.mem_iff.mp hv)
    obtain ⟨x, t, z⟩ := shape e he
    exact ⟨x, t, by rw [← q]; exact z⟩
  have names : (vs.map strOf).Perm (es.toList.map fun e => strOf e.2) := by
    have q := pm.map strOf
    rw [List.map_map] at q
    exact q
  have once : (es.toList.map fun e => strOf e.2).Nodup := by
    unfold List.Nodup
    rw [List.pairwise_map]
    have key : ∀ l : List (Int × Value), (∀ e ∈ l, ∃ x t, e.2 = Value.str x t) → (l.Pairwise fun e f => ∀ k, ((mixKind P w).is k e.2 && (mixKind P w).is k f.2) = false) → l.Pairwise fun e f => strOf e.2 ≠ strOf f.2 := by
      intro l hl hp
      refine List.Pairwise.imp_of_mem ?_ hp
      intro e g he hg z c
      obtain ⟨x, t, ex⟩ := hl e he
      obtain ⟨y, u, ey⟩ := hl g hg
      rw [ex, ey] at c
      have c2 : x = y := c
      have q := z (Sum.inr x)
      rw [ex, ey, c2] at q
      have h1 : (mixKind P w).is (Sum.inr y) (Value.str y t) = true := keyIs_str y t
      have h2 : (mixKind P w).is (Sum.inr y) (Value.str y u) = true := keyIs_str y u
      rw [h1, h2] at q
      cases q
    exact key _ shape f.ap
  have who : ∀ x, x ∈ es.toList.map (fun e => strOf e.2) ↔ S (Sum.inr x) = true := fun x => by
    rw [f.mem, List.mem_map]
    constructor
    · rintro ⟨e, he, q⟩
      obtain ⟨y, t, z⟩ := shape e he
      rw [z] at q
      have q2 : y = x := q
      refine ⟨e, he, ?_⟩
      rw [z, q2]
      exact keyIs_str x t
    · rintro ⟨e, he, q⟩
      rcases keyIs_shape (k := Sum.inr x) (v := e.2) q with ⟨i, t, z, _⟩ | ⟨y, t, z, z2⟩
      · cases z
      · cases z
        exact ⟨e, he, by rw [z2]; rfl⟩
  refine wpAny_bind (wpAny_newList ?_ small)
  have hoL : (s1.heap.push (seqObj "list" vs.toArray 0)).get? s1.heap.objs.size = some (seqObj "list" vs.toArray 0) := Heap.get?_push_size _ rfl
  refine wpAny_bind (wpAny_holding (wpAny_call_entry slot_list_sort ⟨_, hoL, rfl⟩ entry_list_sort (list_sort_treeKAny strKind_oneLt hoL texts.keysOf (fun v1 v2 r e => keyKind_strs (by rw [← e]; exact texts)) small fun st a1 a2 => ⟨_, rfl, ?_⟩) (args_list_sort _)))
  obtain ⟨ys, b1, b2, b3⟩ := sorted_out_str texts a1 a2
  obtain ⟨c, hc⟩ := sortedHeap_at (vs := vs) (out := (arrOf st).map (·.2)) hoL
  have pn := b2.trans names
  refine wpAny_pure ⟨_, rfl, fin _ s1.heap.objs.size _ c ys (fun b u e => ?_) g1 o1 hz hc b1 b3 (pn.nodup_iff.mpr once) (fun x => by rw [pn.mem_iff]; exact who x) (by rw [pn.length_eq, List.length_map, Array.length_toList, num])⟩
  have q := k1 b u e
  have lt := Heap.lt_size q
  show (sortedHeap (s1.heap.push (seqObj "list" vs.toArray 0)) s1.heap.objs.size vs ((arrOf st).map (·.2))).get? b = some u
  rw [sortedHeap_old (Nat.ne_of_lt lt) (by rw [size_push']; exact Nat.lt_succ_of_lt lt)]
  exact Heap.get?_push_of_some _ q
end
section
variable {X : Cx}
theorem setT_get {pins : List (Addr × Obj)} {σ : L2.St} {H : Hp} {s : Shared} {a : Addr} {S : Key → Bool} {n : Nat} (I : Inv X pins σ H s) (ha : H a = some (SetTO X.prog X.w a S n)) : SetG (KF (mixKind X.prog X.w) S) X.w s.heap a n := (I.hok a _ ha).1
def rSortT (P : Program) (w : World) : List V → Hp → VK → Prop := fun vs H Q => ∃ (a : Addr) (S : Key → Bool) (n : Nat), vs = [V.ref a] ∧ H a = some (SetTO P w a S n) ∧ (∀ i : Int, S (Sum.inl i) = false) ∧ n ≤ sizeLine ∧
  ∀ (ys : List Str) (p : Addr), sortedS ys = true → ys.Nodup → (∀ x, x ∈ ys ↔ S (Sum.inr x) = true) → ys.length = n → H p = none → Q (.ref p) (upd H p (.lst (ys.map V.str)))
theorem cr_sortT (hc : X.calm = true) : CallR X (.builtin "sorted") (rSortT X.prog X.w) := by
  intro pins s σ H vs us Q I r h
  obtain ⟨a, S, n, rfl, ha, txt, small, q⟩ := h
  rw [Vals.ref1 r]
  refine sorted_texts (setT_get I ha) (I.ok.hd hc) txt fun s2 p out c ys k g o hp hg hi hs hd hm hl => ?_
  have hn : H p = none := I.hok.fresh hp
  have J : Inv X pins σ (upd H p (.lst (ys.map V.str))) { s with heap := s2.heap, gens := s2.gens, drawn := s2.drawn, toks := s2.toks } :=
    I.call (ch := []) (Un.laid k hp hn) (I.hok.laid k hp ⟨by rw [List.length_map, hl]; exact small, out.toList, c, vals_of_strs hi, hg⟩) (by rw [g]; exact I.bare) (fun _ z => nomatch z)
  have e : s2 = { s with heap := s2.heap, gens := s2.gens, drawn := s2.drawn, toks := s2.toks } := by
    obtain ⟨x1, x2, x3, x4, x5⟩ := s2
    obtain ⟨y1, y2, y3, y4, y5⟩ := s
    cases o
    rfl
  rw [e]
  exact ⟨.ref p, _, J, rfl, q ys p hs hd hm hl hn⟩
end
end Qj
namespace Qj
open PySem PySem.Spec PyProof.Rows L2
/-! ### {e for x in xs if ..}, e a text or an int -/
/-- one more in it -/
def kIn (S : Key → Bool) (k : Key) : Key → Bool := fun j => S j || decide (j = k)
/-- how many then -/
def kNum (S : Key → Bool) (n : Nat) (k : Key) : Nat := if S k = true then n else n + 1
/-- what a turn behind its target asks -/
def turnK (P : Program) (w : World) (tt : TT) (te : TE) (vs : List Nat) (D : Addr) (Nx : Hp → Prop) (σ1 σ2 : L2.St) (G : Hp) : Prop :=
  wipe σ2 vs = wipe σ1 vs ∧ tt σ2 G fun b G1 => if b = true then te σ2 G1 fun y G2 => ∃ (k : Key) (S : Key → Bool) (n : Nat), y = kV k ∧ G2 D = some (SetTO P w D S n) ∧ n + 1 < scanBound ∧ Nx (upd G2 D (SetTO P w D (kIn S k) (kNum S n k))) else Nx G1
def walkK (P : Program) (w : World) (g : TG) (tt : TT) (te : TE) (vs : List Nat) (σ : L2.St) (J : It) (D : Addr) (Qd : Hp → Prop) (G0 : Hp) : Prop :=
  ∃ W : Nat → Nat → Hp → Prop, (∃ m, W 0 m (upd G0 D (SetTO P w D (fun _ => false) 0))) ∧ ∀ i m G, W i m G → (J.stop i G ∧ Qd G) ∨ (J.go i G ∧ ∃ Nx : Hp → Prop, (∀ G', Nx G' → ∃ m', m' < m ∧ W (i + 1) m' G') ∧
    ∀ x G', J.yld i G x G' → g x (wipe σ vs) G' (turnK P w tt te vs D Nx σ))
def tSk (P : Program) (w : World) (wi : TI) (g : TG) (tt : TT) (te : TE) (vs : List Nat) : TE := fun σ H Q => wi σ H fun J H1 => ∀ D, H1 D = none → walkK P w g tt te vs σ J D (fun G => Q (.ref D) G) H1
section
variable {X : Cx} {pins : List (Addr × Obj)} {σ : L2.St} {H : Hp} {s : Shared}
theorem add_key {E : Value → Shared → Prop} {D : Addr} {S : Key → Bool} {n : Nat} {k : Key} {u : Value} {R : Value → Shared → Prop} (I : Inv X pins σ H s) (hD : H D = some (SetTO X.prog X.w D S n)) (hn : n + 1 < scanBound) (rk : RelV (kV k) u)
    (fin : ∀ t, Inv X pins σ (upd H D (SetTO X.prog X.w D (kIn S k) (kNum S n k))) t → R .none t) : wpAny (model X.prog X.w) X.A (call (.builtin "set.add") [.ref D, u]) R E s :=
  setG_call (setT_get I hD) hn (kV_is rk) (key_scan rk) fun h2 sb so => fin _ (I.write (e := D) (t' := s.toks + 1) (by rw [hD]; trivial) (.inl rfl) (fun b o nb ho => (sb.2 b nb).trans ho) (by obtain ⟨o, _, _, _, z, _⟩ := so; exact ⟨o, z⟩) (setT_new so))
end
section
variable {X : Cx}
abbrev BlkAll (X : Cx) (sc : Scope) (Φ : Cx → Prop) : Prop := ∀ (s : Shared) (G : Hp) (C : Addr) (cl : List (PySem.Str × Addr)) (fp : List Addr), Φ (X.blk s G sc (compEnvC sc cl C X.env) fp)
theorem sk_core {pins : List (Addr × Obj)} {s : Shared} {σ : L2.St} {H : Hp} {Q : VK} {el tg it0 : Expr} {fs : List Expr} {sc : Scope} {own : List (PySem.Str × Nat)} {ps p2 : Pos} {wi : TI} {g : TG} {tt : TT} {te : TE} {use : Option (Value → Sem Unit)} {Qf : Value → Shared → Prop}
    (hc : X.calm = true) (nd : X.N.Nodup) (I : Inv X pins σ H s) (hi : PI X tg it0 wi) (ok : BlkOk X.N X.env.scope sc own) (bg : BlkAll X sc fun Y => PG Y tg g) (bt : BlkAll X sc fun Y => PTs Y fs tt) (be : BlkAll X sc fun Y => PE Y el te)
    (fold : ∀ x, foldedSetIterable it0 X.env x = pure x) (h : tSk X.prog X.w wi g tt te (own.map (·.2)) σ H Q)
    (out : ∀ D C s' m G, Inv X pins σ G s' → Q (.ref D) G → s'.heap.Ns C m → FpOk X pins G C → compPost (model X.prog X.w) X.A X.xe use Qf (.ref D) C (.ok .next) s') :
    wpAny (model X.prog X.w) X.A (comprehension (.SetComp el [⟨tg, it0, fs, 0⟩] sc ps) sc X.env p2 (newSet (.type "set")) false (eval it0 X.env) use) Qf X.xe s := by
  have frees : ∀ y ∈ sc.names, y.2 = .free → ∃ c, X.env.cells.lookup y.1 = some c := fun y hy e => (ok.free y hy e).elim (fun z => I.ok.has _ (.inl z)) (fun z => I.ok.has _ (.inr z))
  refine wpAny_comprehension_free (use := use) rfl fold (closure_ok frees) ok.kind (fun y hy e => by rw [ok.uniq y hy, e]) (thn (hi.run pins s σ H _ I h) fun _ _ h1 => thn h1 fun _ s2 h2 => ?_)
  obtain ⟨ia, fp, tn, J, H2, rfl, I2, T, st2, f2, q⟩ := h2
  refine PpSet.newSet_ok (newEnv_comp ?_)
  generalize hD : s2.heap.objs.size = D
  obtain ⟨W, ⟨m0, w0⟩, turn⟩ := q D (I2.hok.fresh (Nat.le_of_eq hD))
  generalize hs3 : ({ s2 with heap := s2.heap.push { cls := .type "set", dict := none, data := .set #[] 0 (.fresh 0 0 (!X.w.params.followText "set-order")) } } : Shared) = s3
  have h3 : s3.heap = s2.heap.push { cls := .type "set", dict := none, data := .set #[] 0 (.fresh 0 0 (!X.w.params.followText "set-order")) } := by rw [← hs3]
  have empty : SetG (KF (mixKind X.prog X.w) fun _ => false) X.w s3.heap D 0 := by
    rw [h3, ← hD]
    exact setG_fresh s2.heap
  generalize hH3 : upd H2 D (SetTO X.prog X.w D (fun _ => false) 0) = H3 at w0
  have I3 : Inv X pins σ H3 s3 := by
    rw [← hH3]
    have z := I2.laid (t' := s2.toks) (a := D) (o := SetTO X.prog X.w D (fun _ => false) 0) (h' := s3.heap) (fun b o e => by rw [h3]; exact Heap.get?_push_of_some _ e) (Nat.le_of_eq hD) (setT_new empty)
    rw [← hs3] at z ⊢
    exact z
  have at2 : ∀ b ∈ fp, b < s2.heap.objs.size := fun b hb => by
    obtain ⟨o, e, _⟩ := T.obj _ _ st2 b hb
    exact Heap.lt_size e
  have f3 : ∀ b ∈ fp, FpOk X pins H3 b ∧ b < s3.heap.objs.size := fun b hb => by
    have lt := at2 b hb
    refine ⟨⟨?_, (f2 b hb).2⟩, by rw [h3, Heap.size_push]; exact Nat.lt_succ_of_lt lt⟩
    rw [← hH3, upd_ne (by rw [← hD]; exact Nat.ne_of_lt lt)]
    exact (f2 b hb).1
  have st3 : tn 0 s3.heap := T.keep _ _ _ st2 fun b _ o e => by
    rw [h3]
    exact Heap.get?_push_of_some _ e
  have I4 := block_start I3 ok nd f3
  have gg := bg s3 H3 s3.heap.objs.size (cellsFrom (s3.heap.objs.size + 1) sc.names (cloFrom X.env.cells sc.names [])) fp
  have gt := bt s3 H3 s3.heap.objs.size (cellsFrom (s3.heap.objs.size + 1) sc.names (cloFrom X.env.cells sc.names [])) fp
  have ge := be s3 H3 s3.heap.objs.size (cellsFrom (s3.heap.objs.size + 1) sc.names (cloFrom X.env.cells sc.names [])) fp
  show codeAny _ _ (.compStart (.SetComp el [⟨tg, it0, fs, 0⟩] sc ps) 0 (.ref ia) (.ref D) (compEnvC sc (cellsFrom (s3.heap.objs.size + 1) sc.names (cloFrom X.env.cells sc.names [])) s3.heap.objs.size X.env)) (compPost (model X.prog X.w) X.A X.xe use Qf (.ref D) s3.heap.objs.size)
    { s3 with heap := pushCells (s3.heap.push { cls := .type "dict", data := .dict #[] }) sc.names }
  generalize hce : compEnvC sc (cellsFrom (s3.heap.objs.size + 1) sc.names (cloFrom X.env.cells sc.names [])) s3.heap.objs.size X.env = ce at I4 gg gt ge ⊢
  have cL : ce.locals = s3.heap.objs.size := by rw [← hce]; rfl
  generalize hs4 : ({ s3 with heap := pushCells (s3.heap.push { cls := .type "dict", data := .dict #[] }) sc.names } : Shared) = s4 at I4 ⊢
  have st4 : tn 0 s4.heap := T.keep _ _ _ st3 fun b _ o e => by
    rw [← hs4]
    exact pushCells_keeps _ _ _ _ (Heap.get?_push_of_some _ e)
  have still : ∀ {τ : L2.St} {G : Hp} {t : Shared}, Inv (X.blk s3 H3 sc ce fp) [] τ G t → (∀ b ∈ fp, G b = none) → ∀ b ∈ fp, FpOk (X.blk s3 H3 sc ce fp) [] G b := fun {τ G t} J no b hb =>
    ⟨no b hb, (J.ok.exf b hb).1, J.ok.exfs b hb, .inl hb, fun x c e => (J.ok.exf b hb).2 x c e, fun p hp => absurd (show p ∈ ([] : List (Addr × Obj)) ++ [] from hp) (by simp)⟩
  refine PpSet.codeAny_compStart_set ?L (T.self X.A 0 _ _ _ st4 ?L)
  refine PpSet.compLoopS_any (fun n t => ∃ i G, Inv (X.blk s3 H3 sc ce fp) [] (wipe σ (own.map (·.2))) G t ∧ tn i t.heap ∧ (∀ b ∈ fp, G b = none) ∧ W i n G) ?_ m0 ⟨0, H3, I4, st4, fun b hb => (f3 b hb).1.1, w0⟩
  rintro n s5 ⟨i, H5, I5, st5, n5, w5⟩
  rcases turn i n H5 w5 with ⟨stop, qq⟩ | ⟨go, Nx, hNx, step⟩
  · refine thnF (T.done (X.blk s3 H3 sc ce fp) rfl rfl rfl hc i [] s5 _ H5 (fun _ _ => False) I5 (still I5 n5) st5 stop) fun r s6 ⟨hr, I6⟩ => ?_
    subst hr
    have fr : H5 s3.heap.objs.size = none := by
      rw [← cL]
      exact I6.free
    obtain ⟨m, hn, _⟩ := I6.loc
    have hn2 : s6.heap.Ns s3.heap.objs.size m := by
      rw [← cL]
      exact hn
    exact out D s3.heap.objs.size s6 m H5 (I3.call' (ch := fp) I6.os I6.base I6.hok I6.bare fun b hb => ⟨(f3 b hb).1.2.2.2.1, (f3 b hb).1.2.1, (f3 b hb).1.2.2.2.2.1, (f3 b hb).1.2.2.2.2.2⟩) qq hn2 (I3.fpOk (Nat.le_refl _) fr)
  · refine thnF (T.item (X.blk s3 H3 sc ce fp) rfl rfl rfl hc i [] s5 _ H5 (fun _ _ => False) I5 (still I5 n5) st5 go) fun r s6 ⟨u, hr, h6⟩ => ?_
    subst hr
    refine thnF h6 fun _ s7 ⟨x, H7, I7, r7, y7, st7, n7⟩ => ?_
    refine thnF (gg.run _ s7 _ H7 x u _ (I7.pinned (still I7 n7) (T.obj _ _ st7)) r7 (step x H7 y7)) fun _ s8 ⟨σ8, H8, I8, hw8, q8⟩ => ?_
    refine thnF (gt.run _ s8 σ8 H8 _ I8 q8) fun b s9 ⟨H9, I9, q9⟩ => ?_
    have fin : ∀ {t : Shared} {G : Hp}, Inv (X.blk s3 H3 sc ce fp) ([] ++ pinsAt fp s7.heap) σ8 G t → Nx G → ∃ m, m < n ∧ ∃ i G, Inv (X.blk s3 H3 sc ce fp) [] (wipe σ (own.map (·.2))) G t ∧ tn i t.heap ∧ (∀ b ∈ fp, G b = none) ∧ W i m G := fun {t G} J nx => by
      obtain ⟨m', hm, w'⟩ := hNx G nx
      have pin : ∀ b ∈ fp, ∀ o, s7.heap.get? b = some o → t.heap.get? b = some o ∧ G b = none := fun b hb o e => ⟨(J.pin (b, o) (List.mem_append_right _ (List.mem_append_right _ (mem_pinsAt hb e)))).1, (J.pin (b, o) (List.mem_append_right _ (List.mem_append_right _ (mem_pinsAt hb e)))).2.1⟩
      refine ⟨m', hm, i + 1, G, (J.unpinned (pins := [])).weak (by rw [← hw8, wipe_length]) (fun j v e => ?_), T.keep _ _ _ st7 fun b hb o e => (pin b hb o e).1, fun b hb => ?_, w'⟩
      · exact (wipe_some (by rw [hw8]; exact e)).1
      · obtain ⟨o, e, _⟩ := T.obj _ _ st7 b hb
        exact (pin b hb o e).2
    cases b with
    | false =>
      rw [if_neg (by decide)] at q9 ⊢
      exact fin I9 q9
    | true =>
      rw [if_pos rfl] at q9 ⊢
      refine thnF (ge.run _ s9 σ8 H9 _ I9 q9) fun z s10 ⟨yv, H10, I10, r10, k, S0, n0, ey, hD10, hz, nx⟩ => ?_
      rw [ey] at r10
      exact add_key (X := X.blk s3 H3 sc ce fp) I10 hD10 hz r10 fun s11 I11 => fin I11 nx
/-- {e for x in it if ..} as a value -/
theorem pe_sk {el tg it0 : Expr} {fs : List Expr} {sc : Scope} {own : List (PySem.Str × Nat)} {ps : Pos} {wi : TI} {g : TG} {tt : TT} {te : TE} (hc : X.calm = true) (nd : X.N.Nodup) (hi : PI X tg it0 wi) (ok : BlkOk X.N X.env.scope sc own)
    (bg : BlkAll X sc fun Y => PG Y tg g) (bt : BlkAll X sc fun Y => PTs Y fs tt) (be : BlkAll X sc fun Y => PE Y el te) (fold : ∀ x, foldedSetIterable it0 X.env x = pure x := by intro _; rfl) : PE X (.SetComp el [⟨tg, it0, fs, 0⟩] sc ps) (tSk X.prog X.w wi g tt te (own.map (·.2))) := by
  refine ⟨fun pins s σ H Q I h => ?_⟩
  rw [PpSet.eval_SetComp]
  refine sk_core hc nd I hi ok bg bt be fold h fun D C t m G J q hn f => ⟨m, hn, fun h2 sb => ⟨.ref D, G, J.turned (t' := t.toks) (fun b o hb e => (sb.2 b hb).trans e) f.1 f.2.1 f.2.2.2.1 f.2.2.2.2.1 f.2.2.2.2.2, rfl, q⟩⟩
/-- len of such a set -/
def rLenK (P : Program) (w : World) : List V → Hp → VK → Prop := fun xs H Q => ∃ (a : Addr) (S : Key → Bool) (n : Nat), xs = [.ref a] ∧ H a = some (SetTO P w a S n) ∧ Q (.int (n : Int)) H
theorem cr_lenK : CallR X (.builtin "len") (rLenK X.prog X.w) := by
  intro pins s σ H xs us Q I r h
  obtain ⟨a, S, n, rfl, ha, q⟩ := h
  obtain ⟨u, rfl, ru⟩ := vals1 r
  cases (show u = Value.ref a from ru)
  obtain ⟨o, es, ep, t, ho, hex, hd, _, _, hb, hf, hn⟩ := setG_of (setT_get I ha)
  refine call_len_set ho hex hd hf ?_ ⟨.int (n : Int), H, (I.tok (s.toks + 1 + 1)), ⟨s.toks + 1, by rw [hn]⟩, q⟩
  have : scanBound ≤ 2 ^ 62 := by decide
  omega
end
/-- the walk of such a comprehension: Pv by the turn, the key set and its number -/
theorem sk_it {P : Program} {w : World} {J : It} {n : Nat} {Gd : Hp → Prop} {Y : Nat → Hp → V → Hp → Prop} (wk : Walk J n Gd Y) {g : TG} {tt : TT} {te : TE} {vs : List Nat} {σ : L2.St} {D : Addr} {Qd : Hp → Prop} {G0 : Hp} (Pv : Nat → Hp → Prop)
    (h0 : Pv 0 (upd G0 D (SetTO P w D (fun _ => false) 0))) (hG : ∀ i G, i ≤ n → Pv i G → Gd G) (hs : ∀ i x G G', i < n → Pv i G → Y i G x G' → g x (wipe σ vs) G' (turnK P w tt te vs D (Pv (i + 1)) σ)) (hd : ∀ G, Pv n G → Qd G) :
    walkK P w g tt te vs σ J D Qd G0 := by
  refine ⟨fun i m G => m + i = n ∧ Pv i G, ⟨n, rfl, h0⟩, fun i m G h => ?_⟩
  obtain ⟨e, p⟩ := h
  cases m with
  | zero =>
    obtain rfl : i = n := by omega
    exact .inl ⟨wk.stops G (hG _ G (Nat.le_refl _) p), hd G p⟩
  | succ m =>
    have lt : i < n := by omega
    exact .inr ⟨wk.goes i G lt (hG i G (by omega) p), Pv (i + 1), fun G' p' => ⟨m, Nat.lt_succ_self m, by omega, p'⟩, fun x G' y => hs i x G G' lt p (wk.yields i G x G' lt (hG i G (by omega) p) y)⟩
end Qj
namespace Qj
open PySem PySem.Spec PyProof.Rows L2
/-! ### a class's own methods, where they stand -/
structure MDef (K : PySem.W.Frag) (C : Addr) (x qual : Str) (st : Stmt) (ps : List Str) where
  f : Addr
  fd : FuncData
  F : Fun K x qual st f fd
  m : Meth K C x f
  b : Binds K fd ps []
def mdef_mk {K : PySem.W.Frag} {C : Addr} {x qual : Str} {st : Stmt} {ps : List Str} {f : Addr} {oc : Value} {od an : Option Addr} {osl : Array (Option Value)} {kV dc pm cd ct : Value}
    (a : PySem.W.findIn K (.ref C) x = some (some (.ref f))) (i : PySem.W.isFn K (.ref f) = true) (l : K.lookup f = some ⟨oc, od, .func (PySem.W.fnOf x qual (defArgs st) (defBody st) (defScope st) .none kV dc pm an cd ct), osl⟩) (c : PySem.W.codeIn K cd qual = true) (k : PySem.W.keepIn K (.ref f) = true)
    (hb : ∀ (kV doc pm : Value) (an : Option Addr) (cdv ct : Value) (us : List Value), us.length = ps.length → bindArgs (PySem.W.fnOf x qual (defArgs st) (defBody st) (defScope st) .none kV doc pm an cdv ct) ⟨us, []⟩ = pure (ps.zip us)) : MDef K C x qual st ps where
  f := f
  fd := PySem.W.fnOf x qual (defArgs st) (defBody st) (defScope st) .none kV dc pm an cd ct
  F := fun_mk l c k
  m := ⟨a, i, k⟩
  b := (fun_mk (x := x) (qual := qual) (st := st) l c k).binds hb
/-- a property, its getter a def of the class -/
structure PDef (K : PySem.W.Frag) (C : Addr) (x qual : Str) (st : Stmt) where
  p : Addr
  f : Addr
  fd : FuncData
  F : Fun K x qual st f fd
  o : PropOf K C x p f
  b : Binds K fd ["self"] []
def pdef_mk {K : PySem.W.Frag} {C : Addr} {x qual : Str} {st : Stmt} {p f : Addr} {rest : List Value} {oc : Value} {od an : Option Addr} {osl : Array (Option Value)} {kV dc pm cd ct : Value}
    (a : PySem.W.findIn K (.ref C) x = some (some (.ref p))) (g : PySem.W.specialIn K (.ref p) "__get__" = some (some (.builtin "property.__get__"))) (t : PySem.W.takesIn K (.ref p) = some true) (r : PySem.W.recIn K p "property" = some (.ref f :: rest))
    (l : K.lookup f = some ⟨oc, od, .func (PySem.W.fnOf x qual (defArgs st) (defBody st) (defScope st) .none kV dc pm an cd ct), osl⟩) (c : PySem.W.codeIn K cd qual = true) (k : PySem.W.keepIn K (.ref f) = true)
    (hb : ∀ (kV doc pm : Value) (an : Option Addr) (cdv ct : Value) (us : List Value), us.length = 1 → bindArgs (PySem.W.fnOf x qual (defArgs st) (defBody st) (defScope st) .none kV doc pm an cdv ct) ⟨us, []⟩ = pure ((["self"] : List Str).zip us)) : PDef K C x qual st where
  p := p
  f := f
  fd := PySem.W.fnOf x qual (defArgs st) (defBody st) (defScope st) .none kV dc pm an cd ct
  F := fun_mk l c k
  o := ⟨a, g, t, rest, r⟩
  b := (fun_mk (x := x) (qual := qual) (st := st) l c k).binds hb
/-- an error class of the text -/
structure Cl (K : PySem.W.Frag) (mg : Str → Option Value) (x : Str) (bm : List Value) (newId : String) where
  C : Addr
  g : mg x = some (.ref C)
  e : ExC K C x bm newId
structure Ini (K : PySem.W.Frag) (C : Addr) (qual : Str) (st : Stmt) (ps : List Str) where
  f : Addr
  fd : FuncData
  F : Fun K "__init__" qual st f fd
  b : Binds K fd ps []
  i : PySem.W.findIn K (.ref C) "__init__" = some (some (.ref f))
  t : PySem.W.typeIn K (.ref f) = some (.type "function")
end Qj
namespace Qj
open PySem PySem.Spec PyProof.Rows L2
/-! ### what is asked of a value -/
mutual
/-- its texts are short -/
def shD : PyData → Bool
  | .str x => decide (x.cps.size ≤ 1000)
  | .tuple ds => shA ds
  | .list ds => shA ds
  | _ => true
def shA : List PyData → Bool
  | [] => true
  | d :: ds => shD d && shA ds
end
def dWhole : PyData → Bool
  | .int _ => true
  | _ => false
def dFrac : PyData → Bool
  | .tuple [.int t, .int b] => decide (1 ≤ b) && decide (((Nat.gcd t.natAbs b.natAbs : Nat) : Int) = 1)
  | _ => false
def dMant (d : PyData) : Bool := dFrac d && match d with
  | .tuple [.int t, .int b] => decide (0 ≤ t) && decide (t < b)
  | _ => false
def dPos (d : PyData) : Bool := dFrac d && match d with
  | .tuple [.int t, .int b] => decide (0 ≤ t) && decide (t ≤ b)
  | _ => false
def dTurns : PyData → Bool
  | .int t => !decide (t = 0) && decide ((if t < 0 then -t else t) ≤ 3)
  | _ => false
def dWord (z : Str) : PyData → Bool
  | .str x => decide (1 ≤ x.cps.size) && (decide (x.cps.size ≤ 3) && x.cps.toList.all fun c => decide (c ∈ z.cps.toList))
  | _ => false
def dScale (z : Str) : PyData → Bool
  | .tuple [n, t, f] => dWord z n && (dTurns t && dMant f)
  | _ => false
def dRow : PyData → Bool
  | .tuple ds => decide (ds.length ≤ 6)
  | _ => false
def spPred (K : PySem.W.Frag) (f : PyData → Bool) : Sp := fun vs H Q _ => ∃ (D : Addr) (v : V) (d : PyData), vs = [v] ∧ Dt K D H v d ∧ shD d = true ∧ ∀ H', Evl.Ex H H' → Q (.bl (f d)) H'
section
variable {K : PySem.W.Frag} {D : Addr} {H : Hp}
theorem two_or {vs : List V} {ds : List PyData} (g : DtA K D H vs ds) : (vs.length ≠ 2 ∧ dFrac (.tuple ds) = false) ∨ ∃ x y dx dy, vs = [x, y] ∧ ds = [dx, dy] ∧ Dt K D H x dx ∧ Dt K D H y dy := by
  match ds, g with
  | [], .nil => exact .inl ⟨by decide, rfl⟩
  | [_], .cons _ .nil => exact .inl ⟨by simp, by rename_i x _ _; cases x <;> rfl⟩
  | [a, b], .cons h (.cons k .nil) => exact .inr ⟨_, _, _, _, rfl, rfl, h, k⟩
  | a :: b :: c :: ds, .cons h (.cons k (.cons l t)) => exact .inl ⟨by simp, by cases a <;> first | rfl | (cases b <;> rfl)⟩
theorem three_or {vs : List V} {ds : List PyData} {z : Str} (g : DtA K D H vs ds) : (vs.length ≠ 3 ∧ dScale z (.tuple ds) = false) ∨ ∃ x y u dx dy du, vs = [x, y, u] ∧ ds = [dx, dy, du] ∧ Dt K D H x dx ∧ Dt K D H y dy ∧ Dt K D H u du := by
  match ds, g with
  | [], .nil => exact .inl ⟨by decide, rfl⟩
  | [_], .cons _ .nil => exact .inl ⟨by simp, rfl⟩
  | [a, b], .cons h (.cons k .nil) => exact .inl ⟨by simp, rfl⟩
  | [a, b, c], .cons h (.cons k (.cons l .nil)) => exact .inr ⟨_, _, _, _, _, _, rfl, rfl, h, k, l⟩
  | a :: b :: c :: e :: ds, .cons h (.cons k (.cons l (.cons m t))) => exact .inl ⟨by simp, rfl⟩
end
theorem sh_item {ds : List PyData} : ∀ {i : Nat} {d : PyData}, shD (.tuple ds) = true → ds[i]? = some d → shD d = true := by
  intro i d h e
  have h2 : shA ds = true := by simpa only [shD] using h
  clear h
  induction ds generalizing i with
  | nil => cases e
  | cons a l ih =>
    simp only [shA, Bool.and_eq_true] at h2
    cases i with
    | zero => cases e; exact h2.1
    | succ i => exact ih e h2.2
theorem not_t {b : Bool} (h : (!b) = true) : b = false := by cases b <;> first | rfl | cases h
theorem not_f {b : Bool} (h : ¬ (!b) = true) : b = true := by cases b <;> first | rfl | exact absurd rfl h
theorem whole_of {d : PyData} (h : dWhole d = true) : ∃ t, d = .int t := by
  cases d <;> first | exact ⟨_, rfl⟩ | cases h
theorem frac_no {x y : PyData} (h : dWhole x = false ∨ dWhole y = false) : dFrac (.tuple [x, y]) = false := by
  cases x <;> first | rfl | skip
  cases y <;> first | rfl | skip
  rcases h with h | h <;> cases h
theorem frac_shape {d : PyData} (h : dFrac d = true) : ∃ t b : Int, d = .tuple [.int t, .int b] := by
  unfold dFrac at h
  split at h
  · exact ⟨_, _, rfl⟩
  · cases h
end Qj
namespace Qj
open PySem PySem.Spec PyProof.Rows L2
def capZ : Str := "ABCDEFGHIJKLMNOPQRSTUVWXYZ"
def spWord (K : PySem.W.Frag) : Sp := fun vs H Q _ => ∃ (D : Addr) (v : V) (d : PyData) (z : Str), vs = [v, .str z] ∧ Dt K D H v d ∧ shD d = true ∧ ∀ H', Evl.Ex H H' → Q (.bl (dWord z d)) H'
def spOv0 : Sp := fun vs H Q _ => ∃ (p q : Addr) (x y : Int × Int), vs = [.ref p, .ref q] ∧ H p = some (frV x) ∧ H q = some (frV y) ∧ Sm 700 x ∧ Sm 62 y ∧ y.1 ≠ 0 ∧ ∀ r H', H r = none → Evl.Ex H H' → H' r = some (frV (ov x y)) → Q (.ref r) H'
theorem kd_str (K : PySem.W.Frag) (k : Kd) : PySem.W.kitOne K (.type k.nm) (.type "str") = some (k == .str) := by
  cases k <;> exact kit_ty (by decide +kernel)
theorem dec_nat {n : Nat} {k : Nat} : decide (((n : Nat) : Int) ≤ (k : Nat)) = decide (n ≤ k) := by
  by_cases h : n ≤ k
  · rw [decide_eq_true h, decide_eq_true (by omega)]
  · rw [decide_eq_false h, decide_eq_false (by omega)]
theorem two_at {K : PySem.W.Frag} {D : Addr} {H : Hp} {vs : List V} {a b : PyData} (g : DtA K D H vs [a, b]) : ∃ x y, vs = [x, y] ∧ Dt K D H x a ∧ Dt K D H y b := by
  cases g with
  | cons h t =>
    cases t with
    | cons k t =>
      cases t
      exact ⟨_, _, rfl, h, k⟩
theorem take_one {z : Array Nat} {i : Nat} {c : Nat} (h : z[i]? = some c) : z.toList.take (i + 1) = z.toList.take i ++ [c] := by
  have h2 : z.toList[i]? = some c := by rw [Array.getElem?_toList]; exact h
  rw [List.take_succ, h2]
  rfl
end Qj
namespace Qj
open PySem PySem.Spec PyProof.Rows L2
/-! ### sums of fractions of any size up to 2 ^ 2000 -/
/-- a fraction is to be read at p -/
def FrA (K : PySem.W.Frag) (H : Hp) (p : Addr) (x : Int × Int) : Prop := SqT K H p [.int x.1, .int x.2]
theorem FrA.of {K : PySem.W.Frag} {H : Hp} {p : Addr} {x : Int × Int} (h : H p = some (frV x)) : FrA K H p x := SqT.of h
theorem FrA.ex {K : PySem.W.Frag} {H H' : Hp} {p : Addr} {x : Int × Int} (h : FrA K H p x) (e : Evl.Ex H H') : FrA K H' p x := sqT_ex e h
theorem FrA.d {K : PySem.W.Frag} {D : Addr} {H : Hp} {p : Addr} {x : Int × Int} (h : FrA K H p x) : Dt K D H (.ref p) (frD x) := .tup h (.cons (.int _) (.cons (.int _) .nil))
theorem Dt.fa {K : PySem.W.Frag} {D : Addr} {H : Hp} {v : V} {x : Int × Int} (h : Dt K D H v (frD x)) : ∃ p, v = .ref p ∧ FrA K H p x := by
  cases h with
  | tup h g =>
    obtain ⟨a, b, rfl, g1, g2⟩ := two_at g
    cases g1
    cases g2
    exact ⟨_, rfl, h⟩
def spBinW (K : PySem.W.Frag) (op : Int × Int → Int × Int → Int × Int) : Sp := fun vs H Q _ => ∃ (p q : Addr) (x y : Int × Int) (k : Nat), vs = [.ref p, .ref q] ∧ FrA K H p x ∧ FrA K H q y ∧ Sm k x ∧ Sm k y ∧ 0 < k ∧ k ≤ 2000 ∧ ∀ r H', H r = none → Evl.Ex H H' → H' r = some (frV (op x y)) → Q (.ref r) H'
def spOvW (K : PySem.W.Frag) : Sp := fun vs H Q _ => ∃ (p q : Addr) (x y : Int × Int) (k : Nat), vs = [.ref p, .ref q] ∧ FrA K H p x ∧ FrA K H q y ∧ Sm k x ∧ Sm k y ∧ 0 < k ∧ k ≤ 2000 ∧ y.1 ≠ 0 ∧ ∀ r H', H r = none → Evl.Ex H H' → H' r = some (frV (ov x y)) → Q (.ref r) H'
def pt (x : Int × Int) : Int × Int := (x.1 % x.2, x.2)
def flr (x : Int × Int) : Int := x.1 / x.2
def spFlW (K : PySem.W.Frag) : Sp := fun vs H Q _ => ∃ (p : Addr) (x : Int × Int), vs = [.ref p] ∧ FrA K H p x ∧ Sm 5000 x ∧ Q (.int (flr x)) H
def spPtW (K : PySem.W.Frag) : Sp := fun vs H Q _ => ∃ (p : Addr) (x : Int × Int), vs = [.ref p] ∧ FrA K H p x ∧ Sm 5000 x ∧ ∀ r H', H r = none → Evl.Ex H H' → H' r = some (frV (pt x)) → Q (.ref r) H'
theorem mulW {i j : Int} {k : Nat} (hi : i.natAbs < 2 ^ k) (hj : j.natAbs < 2 ^ k) (h0 : 0 < k) (h : k ≤ 2000) : CMulW i j := wide_mul hi hj h0 h0 (by omega)
theorem sm_pt {x : Int × Int} {k : Nat} (h : Sm k x) : Sm k (pt x) := by
  have a := Int.emod_nonneg x.1 (Int.ne_of_gt h.p)
  have b := Int.emod_lt_of_pos x.1 h.p
  have c := h.b
  exact ⟨by show (x.1 % x.2).natAbs < _; omega, h.b, h.p⟩
/-! ### a rule stands at r -/
/-- the name of a scale -/
def nmD : PyData → Str
  | .tuple (.str x :: _) => x
  | _ => Str.empty
structure RowOk (bd sd : List PyData) : Prop where
  b : bd.length ≤ 6
  s : sd.length ≤ 6
  ok : ∀ d ∈ bd ++ sd, dScale capZ d = true
  sh : shA (bd ++ sd) = true
  nd : ((bd ++ sd).map nmD).Nodup
def insR (C dx pb ps : Addr) : HO := .ins C dx [("_body", .ref pb), ("_slide", .ref ps)]
structure RuleAt (K : PySem.W.Frag) (C D : Addr) (H : Hp) (r : Addr) (bd sd : List PyData) : Prop where
  ob : ∃ dx pb ps, H r = some (insR C dx pb ps) ∧ Dt K D H (.ref pb) (.tuple bd) ∧ Dt K D H (.ref ps) (.tuple sd)
theorem RuleAt.ex {K : PySem.W.Frag} {C D r : Addr} {H H' : Hp} {bd sd : List PyData} (h : RuleAt K C D H r bd sd) (e : Evl.Ex H H') : RuleAt K C D H' r bd sd := by
  obtain ⟨dx, pb, ps, a, b, c⟩ := h.ob
  exact ⟨dx, pb, ps, e _ _ a, b.ex e, c.ex e⟩
theorem RuleAt.bu {K : PySem.W.Frag} {C D r : Addr} {H H' : Hp} {bd sd : List PyData} (h : RuleAt K C D H r bd sd) (k : DeckAt H D) (e : Bu D H H') : RuleAt K C D H' r bd sd := by
  obtain ⟨dx, pb, ps, a, b, c⟩ := h.ob
  refine ⟨dx, pb, ps, e _ _ (fun z => ?_) a, b.bu k e, c.bu k e⟩
  obtain ⟨g, m, n, hD, _⟩ := k
  subst z
  rw [hD] at a
  cases a
def spInit (K : PySem.W.Frag) (C : Addr) : Sp := fun vs H Q _ => ∃ (D r dx pb ps : Addr) (bd sd : List PyData), vs = [.ref r, .ref pb, .ref ps] ∧ H r = some (.ins C dx []) ∧ Dt K D H (.ref pb) (.tuple bd) ∧ Dt K D H (.ref ps) (.tuple sd) ∧ RowOk bd sd ∧
  ∀ H', (∀ a o, a ≠ r → H a = some o → H' a = some o) → H' r = some (insR C dx pb ps) → Q .non H'
/-- scale(name) where the rule has it -/
def spScale (K : PySem.W.Frag) (C : Addr) : Sp := fun vs H Q _ => ∃ (D r : Addr) (bd sd : List PyData) (i : Nat) (nm : Str) (t : Int) (f : PyData), vs = [.ref r, .str nm] ∧ RuleAt K C D H r bd sd ∧ RowOk bd sd ∧ (bd ++ sd)[i]? = some (.tuple [.str nm, .int t, f]) ∧
  ∀ q v H', Evl.Ex H H' → H' q = some (.tup [.int t, v]) → Dt K D H' v f → Q (.ref q) H'
theorem scale_shape {z : Str} {d : PyData} (h : dScale z d = true) : ∃ nm t f, d = .tuple [.str nm, .int t, f] ∧ dWord z (.str nm) = true ∧ dTurns (.int t) = true ∧ dMant f = true := by
  unfold dScale at h
  split at h
  · rename_i n t f
    simp only [Bool.and_eq_true] at h
    obtain ⟨h1, h2, h3⟩ := h
    cases n <;> first | (cases t <;> first | exact ⟨_, _, _, rfl, h1, h2, h3⟩ | cases h2) | cases h1
  · cases h
theorem sh_at {ds : List PyData} {i : Nat} {d : PyData} (h : shA ds = true) (e : ds[i]? = some d) : shD d = true := sh_item (ds := ds) (i := i) (by simpa only [shD] using h) e
theorem ex_upd {H G : Hp} {c : Addr} {o : HO} (e : Evl.Ex H G) (n : H c = none) : Evl.Ex H (upd G c o) := fun a u h => by
  rw [upd_ne (fun z => by subst z; rw [n] at h; cases h)]
  exact e a u h
theorem all_rep : ∀ n : Nat, (List.replicate n true).all id = true
  | 0 => rfl
  | n + 1 => by rw [List.replicate_succ, List.all_cons, all_rep n]; rfl
/-- the names among the first i -/
def seenK (ns : List Str) (S : Key → Bool) : Prop := ∀ x : Str, S (Sum.inr x) = true ↔ x ∈ ns
theorem seen_add {ns : List Str} {S : Key → Bool} (h : seenK ns S) (x : Str) : seenK (ns ++ [x]) (kIn S (Sum.inr x)) := by
  intro y
  unfold kIn
  rw [Bool.or_eq_true, decide_eq_true_eq, h y, List.mem_append, List.mem_singleton]
  constructor
  · rintro (h | h)
    · exact .inl h
    · cases h
      exact .inr rfl
  · rintro (h | h)
    · exact .inl h
    · subst h
      exact .inr rfl
theorem take_next {α : Type} {l : List α} {i : Nat} {x : α} (h : l[i]? = some x) : l.take (i + 1) = l.take i ++ [x] := by
  rw [List.take_succ, h]
  rfl
theorem not_before {ns : List Str} (nd : ns.Nodup) {i : Nat} {x : Str} (h : ns[i]? = some x) : x ∉ ns.take i := by
  induction ns generalizing i with
  | nil => cases h
  | cons a l ih =>
    have n2 := List.nodup_cons.mp nd
    cases i with
    | zero => intro z; cases z
    | succ i =>
      intro z
      rw [List.take_succ_cons, List.mem_cons] at z
      have h2 : l[i]? = some x := h
      rcases z with z | z
      · subst z
        exact n2.1 (List.mem_iff_getElem?.mpr ⟨i, h2⟩)
      · exact ih n2.2 h2 z
end Qj
namespace Qj
open PySem PySem.Spec PyProof.Rows L2
theorem sh_app (a b : List PyData) : shA (a ++ b) = (shA a && shA b) := by
  induction a with
  | nil => rfl
  | cons d l ih =>
    show (shD d && shA (l ++ b)) = ((shD d && shA l) && shA b)
    rw [ih, Bool.and_assoc]
end Qj
namespace Qj
open PySem PySem.Spec PyProof.Rows L2
theorem ix_tupK {X : Cx} (K : PySem.W.Frag) (h : X.K = K) : IxR X (rIxT K) := by
  subst h
  exact ix_tup
end Qj
namespace Qj
open PySem PySem.Spec PyProof.Rows L2
theorem three_at {K : PySem.W.Frag} {D : Addr} {H : Hp} {vs : List V} {a b c : PyData} (g : DtA K D H vs [a, b, c]) : ∃ x y z, vs = [x, y, z] ∧ Dt K D H x a ∧ Dt K D H y b ∧ Dt K D H z c := by
  cases g with
  | cons h t =>
    obtain ⟨y, z, rfl, k, l⟩ := two_at t
    exact ⟨_, _, _, rfl, h, k, l⟩
end Qj
namespace Qj
open PySem PySem.Spec PyProof.Rows L2
theorem str_of_test {x y : Str} (h : decide (V.str x = V.str y) = true) : x = y := V.str.inj (of_decide_eq_true h)
theorem nodup_at {ns : List Str} (nd : ns.Nodup) {i j : Nat} {x : Str} (hi : ns[i]? = some x) (hj : ns[j]? = some x) : i = j := by
  rcases Nat.lt_trichotomy i j with h | h | h
  · refine absurd ?_ (not_before nd hj)
    exact List.mem_iff_getElem?.mpr ⟨i, by rw [List.getElem?_take, if_pos h]; exact hi⟩
  · exact h
  · refine absurd ?_ (not_before nd hi)
    exact List.mem_iff_getElem?.mpr ⟨j, by rw [List.getElem?_take, if_pos h]; exact hj⟩
/-! ### where a mantissa stands, what stands at a position -/
/-- both parts below 2 ^ 60 -/
structure Man (x : Int × Int) : Prop where
  lo : 0 ≤ x.1
  hi : x.1 < x.2
  g : Nat.gcd x.1.natAbs x.2.natAbs = 1
  b : x.2 < 2 ^ 60
structure Pos (x : Int × Int) : Prop where
  lo : 0 ≤ x.1
  hi : x.1 ≤ x.2
  p : 0 < x.2
  g : Nat.gcd x.1.natAbs x.2.natAbs = 1
  b : x.2 < 2 ^ 60
theorem Man.sm {x : Int × Int} (m : Man x) : Sm 60 x := by
  have := m.lo
  have := m.hi
  have := m.b
  exact ⟨by omega, by omega, by omega⟩
theorem Pos.sm {x : Int × Int} (m : Pos x) : Sm 60 x := by
  have := m.lo
  have := m.hi
  have := m.p
  have := m.b
  exact ⟨by omega, by omega, by omega⟩
theorem Man.pos {x : Int × Int} (m : Man x) : Pos x := ⟨m.lo, Int.le_of_lt m.hi, by have := m.lo; have := m.hi; omega, m.g, m.b⟩
theorem Man.d {x : Int × Int} (m : Man x) : dMant (frD x) = true := by
  have := m.lo
  have := m.hi
  have e : dMant (frD x) = ((decide (1 ≤ x.2) && decide (((Nat.gcd x.1.natAbs x.2.natAbs : Nat) : Int) = 1)) && (decide (0 ≤ x.1) && decide (x.1 < x.2))) := rfl
  rw [e, m.g, decide_eq_true (show 1 ≤ x.2 by omega), decide_eq_true m.lo, decide_eq_true m.hi]
  rfl
theorem Pos.d {x : Int × Int} (m : Pos x) : dPos (frD x) = true := by
  have := m.p
  have e : dPos (frD x) = ((decide (1 ≤ x.2) && decide (((Nat.gcd x.1.natAbs x.2.natAbs : Nat) : Int) = 1)) && (decide (0 ≤ x.1) && decide (x.1 ≤ x.2))) := rfl
  rw [e, m.g, decide_eq_true (show 1 ≤ x.2 by omega), decide_eq_true m.lo, decide_eq_true m.hi]
  rfl
def ab (t : Int) : Int := if t < 0 then -t else t
/-- the position -/
def plc (t : Int) (fo : Int × Int) (s : Int) (m : Int × Int) : Int × Int := ov (pl (s, 1) (pt (if 0 < t then mi m fo else mi fo m))) (ab t, 1)
def lenAt (t : Int) (fo : Int × Int) (p : Int × Int) : Int × Int := pl (ti (t, 1) p) fo
/-- the scale's turns and fold are small -/
structure Trn (t : Int) : Prop where
  n : t ≠ 0
  lo : -3 ≤ t
  hi : t ≤ 3
theorem Trn.ab1 {t : Int} (h : Trn t) : 1 ≤ ab t ∧ ab t ≤ 3 := by
  have := h.n
  have := h.lo
  have := h.hi
  unfold ab
  split <;> omega
def spPlace (K : PySem.W.Frag) (C : Addr) : Sp := fun vs H Q _ => ∃ (D r q : Addr) (bd sd : List PyData) (i : Nat) (nm : Str) (t s : Int) (fo m : Int × Int), vs = [.ref r, .str nm, .int s, .ref q] ∧ RuleAt K C D H r bd sd ∧ RowOk bd sd ∧ (bd ++ sd)[i]? = some (.tuple [.str nm, .int t, frD fo]) ∧
  Trn t ∧ Man fo ∧ Man m ∧ 0 ≤ s ∧ s < ab t ∧ FrA K H q m ∧ ∀ p H', H p = none → Evl.Ex H H' → H' p = some (frV (plc t fo s m)) → Q (.ref p) H'
def spFigure (K : PySem.W.Frag) (C : Addr) : Sp := fun vs H Q _ => ∃ (D r q : Addr) (bd sd : List PyData) (i : Nat) (nm : Str) (t : Int) (fo x : Int × Int), vs = [.ref r, .str nm, .ref q] ∧ RuleAt K C D H r bd sd ∧ RowOk bd sd ∧ (bd ++ sd)[i]? = some (.tuple [.str nm, .int t, frD fo]) ∧
  Trn t ∧ Man fo ∧ Pos x ∧ FrA K H q x ∧ ∀ p u H', Evl.Ex H H' → H' p = some (.tup [.int (flr (lenAt t fo x)), .ref u]) → H' u = some (frV (pt (lenAt t fo x))) → Q (.ref p) H'
theorem sm_int {t : Int} (h : t.natAbs < 2 ^ 60) : Sm 60 (t, 1) := ⟨h, (by decide : (1 : Int).natAbs < 2 ^ 60), (by decide : (0 : Int) < 1)⟩
theorem sm_behind {t : Int} {fo m : Int × Int} (hf : Sm 60 fo) (hm : Sm 60 m) : Sm 121 (if 0 < t then mi m fo else mi fo m) := by
  split
  · exact sm_mi hm hf
  · exact sm_mi hf hm
end Qj
namespace Qj
open PySem PySem.Spec PyProof.Rows L2
/-! ### drawn scales -/
theorem pickV {xs : List V} {v : Int} (h0 : 0 ≤ v) (h1 : v < xs.length) : ∃ k x, xs[k]? = some x ∧ atI xs v = some x ∧ v = (k : Nat) := by
  obtain ⟨k, rfl⟩ := Int.eq_ofNat_of_zero_le h0
  have hk : k < xs.length := by omega
  exact ⟨k, xs[k], by simp [hk], atI_nat (by simp [hk]), rfl⟩
theorem pickI {ns : List Int} {v : Int} (h0 : 0 ≤ v) (h1 : v < ns.length) : ∃ b, atI (ns.map V.int) v = some (.int b) ∧ b ∈ ns := by
  obtain ⟨k, x, hk, ha, _⟩ := pickV (xs := ns.map V.int) h0 (by rw [List.length_map]; exact h1)
  rw [List.getElem?_map] at hk
  cases e : ns[k]? with
  | none => rw [e] at hk; cases hk
  | some b =>
    rw [e] at hk
    cases hk
    exact ⟨b, ha, List.mem_iff_getElem?.mpr ⟨k, e⟩⟩
theorem pickS {zs : List Str} {v : Int} (h0 : 0 ≤ v) (h1 : v < zs.length) : ∃ z, atI (zs.map V.str) v = some (.str z) ∧ z ∈ zs := by
  obtain ⟨k, x, hk, ha, _⟩ := pickV (xs := zs.map V.str) h0 (by rw [List.length_map]; exact h1)
  rw [List.getElem?_map] at hk
  cases e : zs[k]? with
  | none => rw [e] at hk; cases hk
  | some b =>
    rw [e] at hk
    cases hk
    exact ⟨b, ha, List.mem_iff_getElem?.mpr ⟨k, e⟩⟩
/-- a drawn mantissa -/
structure Mn (x : Int × Int) : Prop where
  m : Man x
  s : x.2 ≤ 10 ^ 6
theorem fr_dvd {t b : Int} (hb : 0 < b) (h0 : 0 ≤ t) : 0 ≤ (fr t b).1 ∧ (fr t b).1 * b = t * (fr t b).2 ∧ (fr t b).2 ≤ b ∧ 0 < (fr t b).2 := by
  have g := gcd_pos t (Int.ne_of_gt hb)
  have d1 := dvd_t t b
  have d2 := dvd_b t b
  unfold fr
  rw [if_pos hb, Int.one_mul, Int.one_mul]
  obtain ⟨u, hu⟩ := d1
  obtain ⟨v, hv⟩ := d2
  have g0 : (0 : Int) < ((Nat.gcd t.natAbs b.natAbs : Nat) : Int) := by omega
  generalize ((Nat.gcd t.natAbs b.natAbs : Nat) : Int) = G at hu hv g0 ⊢
  have e1 : t / G = u := by rw [hu, Int.mul_ediv_cancel_left _ (Int.ne_of_gt g0)]
  have e2 : b / G = v := by rw [hv, Int.mul_ediv_cancel_left _ (Int.ne_of_gt g0)]
  dsimp only
  rw [e1, e2]
  have v0 : 0 < v := by
    rw [hv] at hb
    exact Int.lt_of_mul_lt_mul_left (a := G) (by rw [Int.mul_zero]; exact hb) (Int.le_of_lt g0)
  refine ⟨?_, ?_, ?_, v0⟩
  · rw [hu] at h0
    exact Int.nonneg_of_mul_nonneg_right h0 g0
  · rw [hu, hv, ← Int.mul_assoc, Int.mul_comm u G]
  · rw [hv]
    have : 1 * v ≤ G * v := Int.mul_le_mul_of_nonneg_right (by omega) (Int.le_of_lt v0)
    omega
theorem man_fr {t b : Int} (h0 : 0 ≤ t) (h1 : t < b) (hb : b < 2 ^ 60) : Man (fr t b) ∧ (fr t b).2 ≤ b := by
  have p : 0 < b := by omega
  obtain ⟨a1, a2, a3, a4⟩ := fr_dvd p h0
  refine ⟨⟨a1, ?_, fr_gcd (Int.ne_of_gt p), Int.lt_of_le_of_lt a3 hb⟩, a3⟩
  have z : (fr t b).1 * b < (fr t b).2 * b := by
    rw [a2, Int.mul_comm (fr t b).2 b]
    exact Int.mul_lt_mul_of_pos_right h1 a4
  exact Int.lt_of_mul_lt_mul_right z (Int.le_of_lt p)
theorem pos_fr {t b : Int} (h0 : 0 ≤ t) (p : 0 < b) (h1 : t ≤ b) (hb : b < 2 ^ 60) : Pos (fr t b) := by
  obtain ⟨a1, a2, a3, a4⟩ := fr_dvd p h0
  refine ⟨a1, ?_, a4, fr_gcd (Int.ne_of_gt p), Int.lt_of_le_of_lt a3 hb⟩
  have z : (fr t b).1 * b ≤ (fr t b).2 * b := by
    rw [a2, Int.mul_comm (fr t b).2 b]
    exact Int.mul_le_mul_of_nonneg_right h1 (Int.le_of_lt a4)
  exact Int.le_of_mul_le_mul_right z p
def spMan : Sp := fun vs H Q _ => ∃ D : Addr, vs = [.ref D] ∧ DeckAt H D ∧ ∀ (p : Addr) (x : Int × Int) (H' : Hp), H' p = some (frV x) → Mn x → Bu D H H' → DeckAt H' D → Q (.ref p) H'
/-- a scale as drawn -/
def Sc (d : PyData) : Prop := ∃ (nm : Str) (t : Int) (fo : Int × Int), d = .tuple [.str nm, .int t, frD fo] ∧ Cap nm ∧ Trn t ∧ Mn fo
theorem cap_word {x : Str} (h : Cap x) : dWord capZ (.str x) = true := by
  have e : dWord capZ (.str x) = (decide (1 ≤ x.cps.size) && (decide (x.cps.size ≤ 3) && x.cps.toList.all fun c => decide (c ∈ capZ.cps.toList))) := rfl
  rw [e, decide_eq_true h.lo, decide_eq_true h.hi, Bool.true_and, Bool.true_and, List.all_eq_true]
  intro c hc
  obtain ⟨a, b⟩ := h.all c hc
  have key : ∀ k, k < 26 → 65 + k ∈ capZ.cps.toList := by decide +kernel
  have := key (c - 65) (by omega)
  rw [show 65 + (c - 65) = c by omega] at this
  exact decide_eq_true this
theorem trn_d {t : Int} (h : Trn t) : dTurns (.int t) = true := by
  have := h.ab1.2
  have e : dTurns (.int t) = (!decide (t = 0) && decide (ab t ≤ 3)) := rfl
  rw [e, decide_eq_false h.n, decide_eq_true this]
  rfl
theorem Sc.ok {d : PyData} (h : Sc d) : dScale capZ d = true ∧ shD d = true ∧ noL d = true ∧ d.hasDict = false := by
  obtain ⟨nm, t, fo, rfl, c, tr, m⟩ := h
  refine ⟨?_, ?_, rfl, rfl⟩
  · have e : dScale capZ (.tuple [.str nm, .int t, frD fo]) = (dWord capZ (.str nm) && (dTurns (.int t) && dMant (frD fo))) := rfl
    rw [e, cap_word c, trn_d tr, m.m.d]
    rfl
  · have e : shD (.tuple [.str nm, .int t, frD fo]) = (decide (nm.cps.size ≤ 1000) && (true && ((true && (true && true)) && true))) := rfl
    rw [e, decide_eq_true (Nat.le_trans c.hi (by decide))]
    rfl
theorem all_sc {ds : List PyData} (h : ∀ d ∈ ds, Sc d) : shA ds = true ∧ noLA ds = true := by
  induction ds with
  | nil => exact ⟨rfl, rfl⟩
  | cons d l ih =>
    obtain ⟨a, b⟩ := ih fun x hx => h x (List.mem_cons_of_mem _ hx)
    obtain ⟨_, c, e, _⟩ := (h d (List.mem_cons_self ..)).ok
    refine ⟨?_, ?_⟩
    · show (shD d && shA l) = true
      rw [c, a]
      rfl
    · show (noL d && noLA l) = true
      rw [e, b]
      rfl
/-- a row of scales whose names begin with signs st apart -/
def Apart (st : Int) (fs : Int) (ds : List PyData) : Prop := ∀ (j : Nat) (d : PyData), ds[j]? = some d → Sc d ∧ (nmD d).cps[0]? = some (65 + ((fs + st * (j : Int)) % 26).toNat)
structure Rows (bd sd : List PyData) : Prop where
  r : RowOk bd sd
  sc : ∀ d ∈ bd ++ sd, Sc d
  b0 : bd ≠ []
  s0 : sd ≠ []
  few : (bd ++ sd).length ≤ 4
theorem apart_names {st fs : Int} {ds : List PyData} (h : Apart st fs ds) (inj : ∀ i j : Nat, i < j → j < ds.length → (fs + st * (i : Int)) % 26 ≠ (fs + st * (j : Int)) % 26) : (ds.map nmD).Nodup := by
  unfold List.Nodup
  rw [List.pairwise_iff_getElem]
  intro i j hi hj lt e
  rw [List.length_map] at hi hj
  rw [List.getElem_map, List.getElem_map] at e
  have a := (h i ds[i] (by simp [hi])).2
  have b := (h j ds[j] (by simp [hj])).2
  rw [e, b] at a
  have a' : 65 + ((fs + st * (j : Int)) % 26).toNat = 65 + ((fs + st * (i : Int)) % 26).toNat := Option.some.inj a
  have n1 := Int.emod_nonneg (fs + st * (i : Int)) (b := 26) (by decide)
  have n2 := Int.emod_nonneg (fs + st * (j : Int)) (b := 26) (by decide)
  exact inj i j lt hj (by omega)
theorem five_apart {fs : Int} {n : Nat} (hn : n ≤ 4) : ∀ i j : Nat, i < j → j < n → (fs + 5 * (i : Int)) % 26 ≠ (fs + 5 * (j : Int)) % 26 := by
  intro i j h1 h2
  omega
theorem rows_cut {fs : Int} {ds : List PyData} (h : Apart 5 fs ds) (c : Nat) (c0 : 0 < c) (c1 : c < ds.length) (few : ds.length ≤ 4) : Rows (ds.take c) (ds.drop c) := by
  have sc : ∀ d ∈ ds.take c ++ ds.drop c, Sc d := by
    rw [List.take_append_drop]
    intro d hd
    obtain ⟨j, hj⟩ := List.mem_iff_getElem?.mp hd
    exact (h j d hj).1
  have l1 : (ds.take c).length = c := by rw [List.length_take]; omega
  have l2 : (ds.drop c).length = ds.length - c := List.length_drop
  refine ⟨⟨by omega, by omega, fun d hd => (sc d hd).ok.1, (all_sc sc).1, ?_⟩, sc, fun z => ?_, fun z => ?_, ?_⟩
  · rw [List.take_append_drop]
    exact apart_names h (five_apart few)
  · rw [z] at l1
    exact absurd l1 (by simp; omega)
  · rw [z] at l2
    exact absurd l2 (by simp; omega)
  · rw [List.take_append_drop]
    exact few
def spScales (K : PySem.W.Frag) : Sp := fun vs H Q _ => ∃ D : Addr, vs = [.ref D] ∧ DeckAt H D ∧ ∀ (p pb ps : Addr) (bd sd : List PyData) (H' : Hp), H' p = some (.tup [.ref pb, .ref ps]) → Dt K D H' (.ref pb) (.tuple bd) → Dt K D H' (.ref ps) (.tuple sd) → Rows bd sd → Bu D H H' → DeckAt H' D → Q (.ref p) H'
theorem cap_sign {fs : Int} : ∃ c, atI capZ.cps.toList (fs % 26) = some c ∧ c = 65 + (fs % 26).toNat := by
  have n1 := Int.emod_nonneg fs (b := 26) (by decide)
  have n2 := Int.emod_lt_of_pos fs (b := 26) (by decide)
  obtain ⟨k, hk⟩ := Int.eq_ofNat_of_zero_le n1
  rw [hk]
  have key : ∀ k, k < 26 → capZ.cps.toList[k]? = some (65 + k) := by decide +kernel
  exact ⟨_, atI_nat (key k (by omega)), by rw [Int.toNat_natCast]⟩
theorem cap_app {c : Nat} {z : Str} (h1 : 65 ≤ c) (h2 : c ≤ 90) (hz : z ∈ (["", "I", "FX"] : List Str)) : Cap ((⟨#[c]⟩ : Str) ++ z) ∧ ((⟨#[c]⟩ : Str) ++ z).cps[0]? = some c ∧ z.length ≤ 2 := by
  have e : ((⟨#[c]⟩ : Str) ++ z).cps = #[c] ++ z.cps := rfl
  have h0 : ∀ w : Array Nat, (#[c] ++ w)[0]? = some c := fun w => by simp [Array.getElem?_append]
  simp only [List.mem_cons, List.not_mem_nil, or_false] at hz
  rcases hz with rfl | rfl | rfl
  · refine ⟨⟨by rw [e]; simp, by rw [e]; simp; decide, fun x hx => ?_⟩, by rw [e]; exact h0 _, by decide⟩
    have : x = c := by
      rw [e, Array.toList_append] at hx
      rcases List.mem_append.mp hx with q | q
      · simpa using q
      · have ez : (("" : Str).cps.toList) = [] := by decide
        rw [ez] at q
        cases q
    omega
  · refine ⟨⟨by rw [e]; simp, by rw [e]; simp; decide, fun x hx => ?_⟩, by rw [e]; exact h0 _, by decide⟩
    rw [e, Array.toList_append] at hx
    rcases List.mem_append.mp hx with q | q
    · simp at q
      omega
    · have := (by decide : ∀ x ∈ ("I" : Str).cps.toList, 65 ≤ x ∧ x ≤ 90) x q
      exact this
  · refine ⟨⟨by rw [e]; simp, by rw [e]; simp; decide, fun x hx => ?_⟩, by rw [e]; exact h0 _, by decide⟩
    rw [e, Array.toList_append] at hx
    rcases List.mem_append.mp hx with q | q
    · simp at q
      omega
    · have := (by decide : ∀ x ∈ ("FX" : Str).cps.toList, 65 ≤ x ∧ x ≤ 90) x q
      exact this
def turns8 : List Int := [1, 2, -1, 3, 1, -2, 1, -3]
theorem trn8 : ∀ t ∈ turns8, Trn t := by
  intro t h
  simp only [turns8, List.mem_cons, List.not_mem_nil, or_false] at h
  rcases h with rfl | rfl | rfl | rfl | rfl | rfl | rfl | rfl <;> exact ⟨by decide, by decide, by decide⟩
def men12 : List Int := [1, 2, 3, 4, 5, 6, 8, 12, 30, 97, 1000, 10 ^ (6 : Int).toNat]
theorem men_ok : ∀ b ∈ men12, 1 ≤ b ∧ b ≤ 10 ^ 6 := by decide +kernel
theorem mn_zero : Mn (0, 1) := ⟨⟨by decide, by decide, by decide, by decide⟩, by decide⟩
/-! ### what the law works out -/
def lawPos (t : Int) (fo : Int × Int) (s : Int) (m : Int × Int) : Int × Int := ti (pl (pt (if 0 < t then mi m fo else mi fo m)) (s, 1)) (1, ab t)
def lawLen (t : Int) (fo x : Int × Int) : Int × Int := pl (ti x (t, 1)) fo
theorem pl_comm (x y : Int × Int) : pl x y = pl y x := by
  unfold pl
  rw [Int.add_comm, Int.mul_comm x.2 y.2]
theorem ti_comm (x y : Int × Int) : ti x y = ti y x := by
  unfold ti
  rw [Int.mul_comm x.1 y.1, Int.mul_comm x.2 y.2]
theorem law_pos (t : Int) (fo : Int × Int) (s : Int) (m : Int × Int) : lawPos t fo s m = plc t fo s m := by
  unfold lawPos plc
  rw [pl_comm]
  rfl
theorem law_len (t : Int) (fo x : Int × Int) : lawLen t fo x = lenAt t fo x := by
  unfold lawLen lenAt
  rw [ti_comm]
def spPosn (K : PySem.W.Frag) : Sp := fun vs H Q _ => ∃ (p q : Addr) (t s : Int) (fo m : Int × Int), vs = [.int t, .ref p, .int s, .ref q] ∧ Trn t ∧ Man fo ∧ Man m ∧ 0 ≤ s ∧ s < ab t ∧ FrA K H p fo ∧ FrA K H q m ∧ ∀ r H', H r = none → Evl.Ex H H' → H' r = some (frV (plc t fo s m)) → Q (.ref r) H'
def spSpot : Sp := fun vs H Q _ => ∃ D : Addr, vs = [.ref D] ∧ DeckAt H D ∧ ∀ (p : Addr) (x : Int × Int) (H' : Hp), H' p = some (frV x) → Pos x → x.2 ≤ 10 ^ 9 → Bu D H H' → DeckAt H' D → Q (.ref p) H'
end Qj
namespace Qj
open PySem PySem.Spec PyProof.Rows L2
theorem cut_to {xs : List V} {k : Nat} (h : k ≤ xs.length) : cutV xs none (some (k : Int)) = xs.take k := by
  unfold cutV
  rw [HT.sIx_none, HT.sIx_nat, List.drop_zero, Nat.sub_zero, Nat.min_eq_left h]
theorem cut_from {xs : List V} {k : Nat} (h : k ≤ xs.length) : cutV xs (some (k : Int)) none = xs.drop k := by
  unfold cutV
  rw [HT.sIx_none, HT.sIx_nat, Nat.min_eq_left h, List.take_of_length_le (by rw [List.length_drop]; exact Nat.le_refl _)]
theorem pos_any : ∀ x ∈ ([(0, 1), (1, 1), (1, 2), (1, 3), (2, 3)] : List (Int × Int)), Pos x ∧ x.2 ≤ 10 ^ 9 := by
  intro x h
  simp only [List.mem_cons, List.not_mem_nil, or_false] at h
  rcases h with rfl | rfl | rfl | rfl | rfl <;> exact ⟨⟨by decide, by decide, by decide, by decide, by decide⟩, by decide⟩
theorem DeckAt.ne' {H : Hp} {D a : Addr} {ws : List V} (d : DeckAt H D) (h : H a = some (.tup ws)) : a ≠ D := by
  obtain ⟨g, m, c, hD, _⟩ := d
  intro z
  subst z
  rw [hD] at h
  cases h
theorem okd_frS {x : Int × Int} (h : Sm 900 x) : Okd (frD x) (900 + 1 + (900 + 1 + 0)) (max 0 (max 0 0) + 1) := okd_fr h.t h.b (by decide) (by decide)
end Qj
namespace Qj
open PySem PySem.Spec PyProof.Rows L2
theorem Kp.but {K : PySem.W.Frag} {D x C dx : Addr} {H H' : Hp} {fs : List (Str × V)} (k : ∀ a o, a ≠ x → H a = some o → H' a = some o) (hx : H x = some (.ins C dx fs)) : Kp K D H H' := by
  refine ⟨fun a xs h => ?_, fun a xs _ h => k _ _ (fun z => ?_) h, fun a h => k _ _ (fun z => ?_) h⟩
  · rcases h with (h | ⟨o, h⟩) | h
    · exact .inl (.inl (k _ _ (fun z => by subst z; rw [hx] at h; cases h) h))
    · exact .inl (.inr ⟨o, k _ _ (fun z => by subst z; rw [hx] at h; cases h) h⟩)
    · exact .inr h
  · subst z
    rw [hx] at h
    cases h
  · subst z
    rw [hx] at h
    cases h
/-- a rule newly made -/
theorem rule_made {K : PySem.W.Frag} {C D x dx pb ps : Addr} {G G3 : Hp} {bd sd : List PyData} (dk : DeckAt G D) (nx : G x = none) (ndx : G dx = none) (ne : dx ≠ x) (hb : Dt K D G (.ref pb) (.tuple bd)) (hs : Dt K D G (.ref ps) (.tuple sd))
    (keep : ∀ a o, a ≠ x → (upd (upd G dx (.own x)) x (.ins C dx [])) a = some o → G3 a = some o) (at3 : G3 x = some (insR C dx pb ps)) : RuleAt K C D G3 x bd sd ∧ Bu D G G3 ∧ DeckAt G3 D := by
  have n2 : (upd G dx (.own x)) x = none := by rw [upd_ne ne.symm]; exact nx
  have e2 : Evl.Ex G (upd (upd G dx (.own x)) x (.ins C dx [])) := (ex_new ndx).trans (ex_new n2)
  have kp : Kp K D (upd (upd G dx (.own x)) x (.ins C dx [])) G3 := .but keep upd_same
  refine ⟨⟨dx, pb, ps, at3, (hb.ex e2).kp kp, (hs.ex e2).kp kp⟩, fun a o na ha => keep _ _ (fun z => ?_) (e2 _ _ ha), ?_⟩
  · subst z
    rw [nx] at ha
    cases ha
  · obtain ⟨g, m, c, hD, hm⟩ := dk
    exact ⟨g, m, c, keep _ _ (fun z => by subst z; rw [nx] at hD; cases hD) (e2 _ _ hD), hm⟩
theorem init_dt {K : PySem.W.Frag} {C D x dx : Addr} {G : Hp} {v : V} {d : PyData} (nx : G x = none) (ndx : G dx = none) (ne : dx ≠ x) (h : Dt K D G v d) : Dt K D (upd (upd G dx (.own x)) x (.ins C dx [])) v d := by
  have n2 : (upd G dx (.own x)) x = none := by rw [upd_ne ne.symm]; exact nx
  exact h.ex ((ex_new ndx).trans (ex_new n2))
theorem okd_pair {i : Int} {x : Int × Int} (h : i.natAbs < 2 ^ 900) (g : Sm 900 x) : Okd (.tuple [.int i, frD x]) 3000 5 := (okd_tup (oka_cons (okd_int h (by decide) (by decide)) (oka_cons (okd_frS g) oka_nil))).mono (by decide) (by decide)
theorem dp_pair {K : PySem.W.Frag} {H : Hp} {p u : Addr} {i : Int} {x : Int × Int} (h : H p = some (.tup [.int i, .ref u])) (g : H u = some (frV x)) : Dp K H (.ref p) (.tuple [.int i, frD x]) := .tup (SqT.of h) (.cons (.int _) (.cons (dp_fr g) .nil))
theorem sm_plc {t s : Int} {fo m : Int × Int} (tr : Trn t) (mf : Man fo) (mm : Man m) (s0 : 0 ≤ s) (s1 : s < ab t) : Sm 900 (plc t fo s m) := by
  have a1 := tr.ab1
  have sb : Sm 121 (if 0 < t then mi m fo else mi fo m) := sm_behind mf.sm mm.sm
  have sp := sm_pl ((sm_int (t := s) (by omega)).mono (show 60 ≤ 121 by decide)) (sm_pt sb)
  exact (sm_ov sp ((sm_int (t := ab t) (by omega)).mono (show 60 ≤ 243 by decide)) (by show ab t ≠ 0; omega)).mono (by decide)
theorem sm_len {t : Int} {fo x : Int × Int} (tr : Trn t) (mf : Man fo) (px : Pos x) : Sm 182 (lenAt t fo x) := by
  have := tr.lo
  have := tr.hi
  exact sm_pl (sm_ti (sm_int (by omega)) px.sm) mf.sm
theorem flr_lt {x : Int × Int} {k : Nat} (h : Sm k x) : (flr x).natAbs < 2 ^ k := Nat.lt_of_le_of_lt (Int.natAbs_ediv_le_natAbs _ _) h.t
end Qj
namespace Qj
open PySem PySem.Spec PyProof.Rows L2
end Qj
namespace Qj
open PySem PySem.Spec PyProof.Rows L2
/-! ### errors with one field, raised, caught -/
section
variable {K : PySem.W.Frag} {C D : Addr} {nm nm2 : Str} {bm bm2 : List Value} {newId newId2 : String}
theorem ExC.exm (T : ExC K C nm bm newId) (S : ExC K D nm2 bm2 newId2) (b : Bas bm2 newId2) : PySem.W.exmOne K (.ref C) (.ref D) = some ((Value.ref C :: bm).contains (.ref D)) := by
  have h1 : PySem.W.subIn K (.ref D) (.type "BaseException") = some true := S.has "BaseException" b.exc
  obtain ⟨cd, h2, _⟩ := S.clsIn
  unfold PySem.W.exmOne PySem.W.kitCls
  rw [h1, if_pos (by decide)]
  dsimp only
  rw [h2, S.ty, if_pos (by simp)]
  exact T.mro _
theorem ExC.own (T : ExC K C nm bm newId) (b : Bas bm newId) : PySem.W.exmOne K (.ref C) (.ref C) = some true := by
  rw [T.exm T b, List.contains_cons]
  simp
theorem ExC.xf (T : ExC K C nm bm newId) (b : Bas bm newId) : XfC K C := by
  obtain ⟨cd, h2, _, _, hd⟩ := T.clsIn
  exact ⟨T.ga, T.gt, T.has "BaseException" b.exc, by unfold PySem.W.hasDictIn; rw [h2]; exact hd⟩
end
/-- the __init__ of an error with one field -/
def spE1 (C : Addr) (f : Str) : Sp := fun vs H Q _ => ∃ (a : Addr) (y : V), vs = [.ref a, y] ∧ H a = some (exo a C none) ∧
  ∀ dx H', H dx = none → dx ≠ a → Evl.Ex (del H a) H' → H' a = some (exo a C (some dx)) → H' dx = some (exd dx [(f, y)]) → Q .non H'
theorem ex_st2 {H : Hp} {a dx : Addr} {o u : HO} (n : H dx = none) : Evl.Ex (del H a) (upd (upd H dx o) a u) := fun b v e => by
  by_cases hb : b = a
  · rw [hb, del_same] at e
    cases e
  · rw [del_ne hb] at e
    rw [upd_ne hb, upd_ne (ne_of_none e n)]
    exact e
/-- what the raise of it asks -/
theorem raise1 {C : Addr} {f : Str} {y : V} {H : Hp} {Q : Value → Option Addr → Hp → Prop} (q : ∀ d H', H d = none → Evl.Ex H H' → H' d = some (.xd [(f, y)]) → Q (.ref C) (some d) H') :
    [y].length ≤ 1000 ∧ ∀ a, H a = none → spE1 C f (.ref a :: [y]) (upd H a (exo a C none)) (fun v H2 => v = .non ∧ ∃ (d : Addr) (fs : List (Str × V)), H2 a = some (exo a C (some d)) ∧ H2 d = some (exd d fs) ∧ H d = none ∧ Q (.ref C) (some d) (upd (del H2 a) d (.xd fs))) (fun _ _ _ => False) := by
  refine ⟨(by show 1 ≤ 1000; omega), fun a na => ⟨a, y, rfl, upd_same, fun dx H' n0 ne ex ha hd => ?_⟩⟩
  have n1 : H dx = none := by
    rw [upd_ne ne] at n0
    exact n0
  refine ⟨rfl, dx, _, ha, hd, n1, q dx _ n1 (fun b o e => ?_) upd_same⟩
  have ba : b ≠ a := fun z => by subst z; rw [na] at e; cases e
  have bd : b ≠ dx := fun z => by subst z; rw [n1] at e; cases e
  rw [upd_ne bd, del_ne ba]
  refine ex b o ?_
  rw [del_ne ba, upd_ne ba]
  exact e
/-! ### C(..) that may raise, within a try; C held by a name; a classmethod without arguments -/
section
variable {X : Cx} {CX : CXT} {k i : Nat} {C p g f : Addr} {mc : Value} {fd : FuncData} {ps : List Str} {sp : Sp} {E : L2.St → XK} {x m : Str} {q pos apos : PySem.Pos} {o e : Expr} {es : List Expr} {t : TA} {ta : TE} {pl : Sem Bool}
theorem run_makeS {pins : List (Addr × Obj)} {σ : L2.St} {H : Hp} {s : Shared} {Q : VK} {us : List Value} {vs : List V} {E1 : XK} (M : Mk X.K C f) (F : FnOk X.prog X.w X.K X.mg X.base CX k f fd ps sp) (hr : Room (k + 1) X.A) (hb : Binds X.K fd ps []) (hx : PassesAt CX X σ E1) (I : Inv X pins σ H s) (r : Vals vs us)
    (h : ∀ y dy, H y = none → H dy = none → dy ≠ y → sp (.ref y :: vs) (upd (upd H dy (.own y)) y (.ins C dy [])) (fun v H2 => v = .non ∧ Q (.ref y) H2) E1) : wpAny (model X.prog X.w) X.A (call (.ref C) us) (EP X pins σ Q) X.xe s := by
  have up : s.heap.objs.size ≤ s.heap.objs.size + 1 := Nat.le_succ _
  have z := h (s.heap.objs.size + 1) s.heap.objs.size (I.hok.fresh up) (I.hok.fresh (Nat.le_refl _)) (Nat.ne_of_lt (Nat.lt_succ_self _))
  have J := Inv.made (C := C) I
  have rr : Vals (V.ref (s.heap.objs.size + 1) :: vs) (Value.ref (s.heap.objs.size + 1) :: us) := .cons rfl r
  have num : (Value.ref (s.heap.objs.size + 1) :: us).length = ps.length := rr.length.symm.trans (F.len _ _ _ _ z)
  have bt := hb _ (Value.ref (s.heap.objs.size + 1) :: us) J.kIn (by rw [List.append_nil]; exact num)
  rw [List.append_nil] at bt
  refine wpAny_call (make_map (f := f) I.kIn M.makes M.init (beq_iff_eq.mp M.fn) (codeAny_mono (F.run _ X.stack _ _ ⟨Value.ref (s.heap.objs.size + 1) :: us, []⟩ (Value.ref (s.heap.objs.size + 1) :: us) _ _ E1 (hr.make C us []) (J.env0.make C us []) bt rr z) fun r2 s2 hq => ?_))
  cases r2 with
  | error er => exact hx pins _ _ er s2 J hq
  | ok fl =>
    cases fl with
    | ret u =>
      obtain ⟨v, H2, I3, rv, ev, q3⟩ := J.after hq
      subst ev
      exact ⟨rv, V.ref (s.heap.objs.size + 1), H2, I3, rfl, q3⟩
    | next => exact hq.elim
    | brk => exact hq.elim
    | cont => exact hq.elim
def tMakeS (C : Addr) (sp : Sp) (E : L2.St → XK) (t : TA) : TE := fun σ H Q => t σ H fun vs H1 => ∀ y dy, H1 y = none → H1 dy = none → dy ≠ y → sp (.ref y :: vs) (upd (upd H1 dy (.own y)) y (.ins C dy [])) (fun v H2 => v = .non ∧ Q (.ref y) H2) (E σ)
theorem pe_makeS (M : Mk X.K C f) (F : FnOk X.prog X.w X.K X.mg X.base CX k f fd ps sp) (hr : Room (k + 1) X.A) (hg : Gl X x) (hm : X.mg x = some (.ref C)) (hb : Binds X.K fd ps []) (hx : ∀ σ, PassesAt CX X σ (E σ)) (ha : PA X (e :: es) t)
    (h1 : (x == ("__debug__" : Str)) = false := by decide) (h2 : starEach (e :: es) X.env = (false, eval e X.env) :: starEach es X.env := by rfl) (h3 : (backTo pos (starEach es X.env)).any (·.1) = false := by rfl) : PE X (.Call (.Name x q) (e :: es) [] pos) (tMakeS C sp E t) := by
  refine ⟨fun pins s σ H Q I h => wpAny_Call_Name_kw (ld_glob I hg hm ?_ h1)⟩
  exact PySem.W.callWith_K (h₀ := X.base) I.ok.mod.kin M.kp (thn (ha.run pos pins s σ H _ I h) fun us s1 ⟨vs, H1, I1, r, z⟩ => ⟨I1.kIn, run_makeS M F hr hb (hx σ) I1 r z⟩) h2 h3
/-- n(..), the local n a class -/
theorem pe_makeL (M : Mk X.K C f) (F : FnOk X.prog X.w X.K X.mg X.base CX k f fd ps sp) (hr : Room (k + 1) X.A) (hN : X.N[i]? = some x) (hv : Vis X.env.scope x) (hb : Binds X.K fd ps []) (hx : ∀ σ, PassesAt CX X σ (E σ)) (ha : PA X (e :: es) t)
    (h1 : (x == ("__debug__" : Str)) = false := by decide) (h4 : (x == ("__classdict__" : Str)) = false := by decide) (h2 : starEach (e :: es) X.env = (false, eval e X.env) :: starEach es X.env := by rfl) (h3 : (backTo pos (starEach es X.env)).any (·.1) = false := by rfl) :
    PE X (.Call (.Name x q) (e :: es) [] pos) (fun σ H Q => σ[i]? = some (some (.ref C)) ∧ tMakeS C sp E t σ H Q) := by
  refine ⟨fun pins s σ H Q I h => ?_⟩
  obtain ⟨h0, h⟩ := h
  refine wpAny_Call_Name_kw (thn ((pe_var (pos := q) hN hv h1 h4).run pins s σ H (fun v H1 => v = .ref C ∧ H1 = H) I ⟨.ref C, h0, rfl, rfl⟩) fun u s1 ⟨v, H1, I1, r1, q1⟩ => ?_)
  obtain ⟨rfl, rfl⟩ := q1
  cases r1
  exact PySem.W.callWith_K (h₀ := X.base) I.ok.mod.kin M.kp (thn (ha.run pos pins s1 σ _ _ I1 h) fun us s2 ⟨vs, H2, I2, r, z⟩ => ⟨I2.kIn, run_makeS M F hr hb (hx σ) I2 r z⟩) h2 h3
/-- o.m(), o a class, m a classmethod -/
theorem pe_cmeth0 {E1 : XK} (he : PE X o ta) (r : ClX.CRead X.K C mc) (c : ClX.CMet X.K C mc m p g) (F : FnR X.prog X.w X.K X.mg X.base CX k g sp) (hr : Room k X.A) (hx : Passes CX X E1)
    (ht : eval (.Call (.Attribute o m apos) [] [] pos) X.env = (do
      let ov ← eval o X.env
      standAt apos.atName
      let (f, first) ← holding [ov] (getMethod ov m pl)
      callWith pos f first (backTo pos (starEach [] X.env)) (backToKw pos (keywordEach [] X.env))) := by rfl) :
    PE X (.Call (.Attribute o m apos) [] [] pos) (fun σ H Q => ta σ H fun y H1 => y = .ref C ∧ sp [.ref C] H1 Q E1) := by
  refine ⟨fun pins s σ H Q I h => ?_⟩
  refine PySem.W.methodCall_KW (pl := pl) (thn (he.run pins s σ H _ I h) fun u s1 ⟨y, H1, I1, ry, ey, z⟩ => ?_) ht
  subst ey
  obtain rfl : u = Value.ref C := ry
  refine ClX.getmethcm_ok I1 r c fun s2 I2 => ?_
  refine PySem.W.callWith_M0 (K := X.K) (g := g) (self := .ref C) ⟨ClX.pin_at I2, I2.kIn⟩ c.fi ?_
  exact ClX.run_cm (us := []) (vs := []) F hr hx I2 .nil z
end
end Qj
namespace Qj
open PySem PySem.Spec PyProof.Rows L2
/-! ### a classmethod where it stands; a written tuple read -/
structure CDef (K : PySem.W.Frag) (C : Addr) (x qual : Str) (st : Stmt) (ps : List Str) where
  p : Addr
  f : Addr
  fd : FuncData
  F : Fun K x qual st f fd
  r : ClX.CRead K C (.type "type")
  c : ClX.CMet K C (.type "type") x p f
  b : Binds K fd ps []
def cdef_mk {K : PySem.W.Frag} {C : Addr} {x qual : Str} {st : Stmt} {ps : List Str} {p f : Addr} {rest : List Value} {oc : Value} {od an : Option Addr} {osl : Array (Option Value)} {kV dc pm cd ct : Value}
    (rd : PySem.W.readsIn K C (.type "type") = true) (ga : PySem.W.specialIn K (.ref C) "__getattribute__" = some (some (.builtin "type.__getattribute__"))) (a : PySem.W.findCls K (.ref C) (.type "type") x = some (.get (.builtin "classmethod.__get__") (.ref p) .none (.ref C)))
    (rr : PySem.W.recIn K p "classmethod" = some (.ref f :: rest)) (fi : PySem.W.fnIn K f = true) (l : K.lookup f = some ⟨oc, od, .func (PySem.W.fnOf x qual (defArgs st) (defBody st) (defScope st) .none kV dc pm an cd ct), osl⟩) (c : PySem.W.codeIn K cd qual = true) (k : PySem.W.keepIn K (.ref f) = true)
    (hb : ∀ (kV doc pm : Value) (an : Option Addr) (cdv ct : Value) (us : List Value), us.length = ps.length → bindArgs (PySem.W.fnOf x qual (defArgs st) (defBody st) (defScope st) .none kV doc pm an cdv ct) ⟨us, []⟩ = pure (ps.zip us)) : CDef K C x qual st ps where
  p := p
  f := f
  fd := PySem.W.fnOf x qual (defArgs st) (defBody st) (defScope st) .none kV dc pm an cd ct
  F := fun_mk l c k
  r := ⟨rd, ga⟩
  c := ⟨a, ⟨rest, rr⟩, fi⟩
  b := (fun_mk (x := x) (qual := qual) (st := st) l c k).binds hb
def readA (f : Value → Option PyData) : List Value → Option (List PyData)
  | [] => some []
  | u :: us => match f u, readA f us with
    | some d, some ds => some (d :: ds)
    | _, _ => none
/-- the written value u as data, at most so deep -/
def readK (K : PySem.W.Frag) : Nat → Value → Option PyData
  | 0, _ => none
  | n + 1, u => match u with
    | .int i _ => some (.int i)
    | .str x _ => some (.str x)
    | .ref a => match K.lookup a with
      | some ⟨.type "tuple", _, .seq its _, _⟩ => if its.size ≤ 1000 then (readA (readK K n) its.toList).map .tuple else none
      | _ => none
    | _ => none
theorem readA_ok {K : PySem.W.Frag} {D : Addr} {H : Hp} {f : Value → Option PyData} (hf : ∀ u d, f u = some d → ∃ v, RelV v u ∧ Dt K D H v d) : ∀ us ds, readA f us = some ds → ∃ vs, Vals vs us ∧ DtA K D H vs ds
  | [], _, h => by
    cases h
    exact ⟨[], .nil, .nil⟩
  | u :: us, ds, h => by
    unfold readA at h
    split at h
    · rename_i d es h1 h2
      cases h
      obtain ⟨v, r, g⟩ := hf u d h1
      obtain ⟨vs, rs, gs⟩ := readA_ok hf us es h2
      exact ⟨v :: vs, .cons r rs, .cons g gs⟩
    · cases h
theorem readK_ok {K : PySem.W.Frag} {D : Addr} {H : Hp} : ∀ (n : Nat) (u : Value) (d : PyData), readK K n u = some d → ∃ v, RelV v u ∧ Dt K D H v d
  | 0, _, _, h => by cases h
  | n + 1, u, d, h => by
    unfold readK at h
    split at h
    · cases h
      exact ⟨.int _, ⟨_, rfl⟩, .int _⟩
    · cases h
      exact ⟨.str _, ⟨_, rfl⟩, .str _⟩
    · rename_i a
      split at h
      · rename_i dd its ep sl ho
        split at h
        · rename_i small
          obtain ⟨ds, h2, rfl⟩ := Option.map_eq_some_iff.mp h
          obtain ⟨vs, rs, gs⟩ := readA_ok (fun u d z => readK_ok n u d z) _ _ h2
          exact ⟨.ref a, rfl, .tup (.inr ⟨_, its, ep, ho, rfl, rfl, Nat.le_trans small (by decide), rs⟩) gs⟩
        · cases h
      · cases h
    · cases h
theorem readK_dt {K : PySem.W.Frag} {D : Addr} {H : Hp} {n : Nat} {a : Addr} {d : PyData} (h : readK K n (.ref a) = some d) : Dt K D H (.ref a) d := by
  obtain ⟨v, r, g⟩ := readK_ok (D := D) (H := H) n _ _ h
  have e : v = .ref a := by
    cases v <;> first | (cases r; rfl) | (obtain ⟨t, z⟩ := r; cases z) | cases r
  rw [← e]
  exact g
end Qj
namespace Qj
/-! ### places and figures are each other's inverse -/
theorem fr_eq {t b : Int} (hb : 0 < b) : (fr t b).1 * b = t * (fr t b).2 ∧ 0 < (fr t b).2 ∧ (fr t b).2 ≤ b ∧ Nat.gcd (fr t b).1.natAbs (fr t b).2.natAbs = 1 := by
  have g := gcd_pos t (Int.ne_of_gt hb)
  refine ⟨?_, fr_pos (Int.ne_of_gt hb), ?_, fr_gcd (Int.ne_of_gt hb)⟩
  · have d1 := dvd_t t b
    have d2 := dvd_b t b
    unfold fr
    rw [if_pos hb, Int.one_mul, Int.one_mul]
    obtain ⟨u, hu⟩ := d1
    obtain ⟨v, hv⟩ := d2
    have g0 : (0 : Int) < ((Nat.gcd t.natAbs b.natAbs : Nat) : Int) := by omega
    generalize ((Nat.gcd t.natAbs b.natAbs : Nat) : Int) = G at hu hv g0 ⊢
    have e1 : t / G = u := by rw [hu, Int.mul_ediv_cancel_left _ (Int.ne_of_gt g0)]
    have e2 : b / G = v := by rw [hv, Int.mul_ediv_cancel_left _ (Int.ne_of_gt g0)]
    dsimp only
    rw [e1, e2, hu, hv]
    grind
  · have d2 := dvd_b t b
    unfold fr
    rw [if_pos hb, Int.one_mul, Int.one_mul]
    exact Int.ediv_le_self _ (Int.le_of_lt hb)
theorem low_eq {a b c d : Int} (hb : 0 < b) (hd : 0 < d) (g1 : Nat.gcd a.natAbs b.natAbs = 1) (g2 : Nat.gcd c.natAbs d.natAbs = 1) (e : a * d = c * b) : a = c ∧ b = d := by
  have e2 : a.natAbs * d.natAbs = c.natAbs * b.natAbs := by rw [← Int.natAbs_mul, ← Int.natAbs_mul, e]
  have h1 : b.natAbs ∣ d.natAbs := by
    have : b.natAbs ∣ a.natAbs * d.natAbs := ⟨c.natAbs, by rw [e2, Nat.mul_comm]⟩
    exact (Nat.Coprime.symm g1).dvd_of_dvd_mul_left this
  have h2 : d.natAbs ∣ b.natAbs := by
    have : d.natAbs ∣ c.natAbs * b.natAbs := ⟨a.natAbs, by rw [← e2, Nat.mul_comm]⟩
    exact (Nat.Coprime.symm g2).dvd_of_dvd_mul_left this
  have h3 := Nat.dvd_antisymm h1 h2
  have h4 : b = d := by omega
  subst h4
  exact ⟨Int.eq_of_mul_eq_mul_right (Int.ne_of_gt hb) e, rfl⟩
theorem cancel {c a b : Int} (h : 0 < c) (e : c * a = c * b) : a = b := Int.eq_of_mul_eq_mul_left (Int.ne_of_gt h) e
/-- a length that is a mantissa and a whole number -/
theorem len_shift {L m : Int × Int} {k : Int} (l2 : 0 < L.2) (lg : Nat.gcd L.1.natAbs L.2.natAbs = 1) (m0 : 0 ≤ m.1) (m1 : m.1 < m.2) (mg : Nat.gcd m.1.natAbs m.2.natAbs = 1) (e : L.1 * m.2 = (k * m.2 + m.1) * L.2) : flr L = k ∧ pt L = m := by
  have m2 : 0 < m.2 := by omega
  have g : Nat.gcd (k * m.2 + m.1).natAbs m.2.natAbs = 1 := by
    have z : Int.gcd (m.1 + k * m.2) m.2 = Int.gcd m.1 m.2 := Int.gcd_add_mul_right_left m.2 m.1 k
    rw [Int.add_comm] at z
    exact z.trans mg
  obtain ⟨e1, e2⟩ := low_eq l2 m2 lg g e
  have f : k * m.2 + m.1 = m.1 + m.2 * k := by grind
  refine ⟨?_, ?_⟩
  · show L.1 / L.2 = k
    rw [e1, e2, f, Int.add_mul_ediv_left _ _ (Int.ne_of_gt m2), Int.ediv_eq_zero_of_lt m0 m1, Int.zero_add]
  · show (L.1 % L.2, L.2) = m
    rw [e1, e2, f, Int.add_mul_emod_self_left, Int.emod_eq_of_lt m0 m1]
def sgn (t : Int) : Int := if 0 < t then 1 else -1
/-- what the position is, times all bottoms -/
theorem plc_eq {t s : Int} {fo m : Int × Int} (tr : Trn t) (mf : 0 < fo.2) (mm : 0 < m.2) :
    ∃ q b : Int, 0 ≤ b ∧ b < fo.2 * m.2 ∧ sgn t * (m.1 * fo.2 - fo.1 * m.2) = q * (fo.2 * m.2) + b ∧ q = flr (if 0 < t then mi m fo else mi fo m) ∧
      (plc t fo s m).1 * (ab t * (fo.2 * m.2)) = (s * (fo.2 * m.2) + b) * (plc t fo s m).2 ∧ 0 < (plc t fo s m).2 ∧ (plc t fo s m).2 ≤ fo.2 * m.2 * ab t ∧ Nat.gcd (plc t fo s m).1.natAbs (plc t fo s m).2.natAbs = 1 := by
  have a1 := tr.ab1
  have pos : 0 < fo.2 * m.2 := Int.mul_pos mf mm
  have key : ∀ G : Int × Int, (∃ v : Int, v = sgn t * (m.1 * fo.2 - fo.1 * m.2) ∧ G = fr v (fo.2 * m.2)) → ∃ q b : Int, 0 ≤ b ∧ b < fo.2 * m.2 ∧ sgn t * (m.1 * fo.2 - fo.1 * m.2) = q * (fo.2 * m.2) + b ∧ q = flr G ∧
      (ov (pl (s, 1) (pt G)) (ab t, 1)).1 * (ab t * (fo.2 * m.2)) = (s * (fo.2 * m.2) + b) * (ov (pl (s, 1) (pt G)) (ab t, 1)).2 ∧ 0 < (ov (pl (s, 1) (pt G)) (ab t, 1)).2 ∧ (ov (pl (s, 1) (pt G)) (ab t, 1)).2 ≤ fo.2 * m.2 * ab t ∧ Nat.gcd (ov (pl (s, 1) (pt G)) (ab t, 1)).1.natAbs (ov (pl (s, 1) (pt G)) (ab t, 1)).2.natAbs = 1 := by
    rintro G ⟨v, hv, rfl⟩
    obtain ⟨g1, g2, g3, _⟩ := fr_eq (t := v) pos
    generalize fr v (fo.2 * m.2) = G at g1 g2 g3 ⊢
    have r0 := Int.emod_nonneg G.1 (Int.ne_of_gt g2)
    have r1 := Int.emod_lt_of_pos G.1 g2
    have r2 := Int.mul_ediv_add_emod G.1 G.2
    obtain ⟨x1, x2, x3, _⟩ := fr_eq (t := s * G.2 + G.1 % G.2 * 1) (b := 1 * G.2) (by omega)
    have ex : pl (s, 1) (pt G) = fr (s * G.2 + G.1 % G.2 * 1) (1 * G.2) := rfl
    rw [ex]
    generalize fr (s * G.2 + G.1 % G.2 * 1) (1 * G.2) = X at x1 x2 x3 ⊢
    obtain ⟨p1, p2, p3, p4⟩ := fr_eq (t := X.1 * 1) (b := X.2 * ab t) (Int.mul_pos x2 (by omega))
    have ep : ov X (ab t, 1) = fr (X.1 * 1) (X.2 * ab t) := rfl
    rw [ep]
    generalize fr (X.1 * 1) (X.2 * ab t) = P at p1 p2 p3 p4 ⊢
    have eq : flr G = G.1 / G.2 := rfl
    generalize hR : G.1 % G.2 = R at r0 r1 r2 x1
    generalize hQ : G.1 / G.2 = q at r2 eq
    -- R / G.2 = b / F
    have F : v - q * (fo.2 * m.2) = v - q * (fo.2 * m.2) := rfl
    have b1 : (v - q * (fo.2 * m.2)) * G.2 = R * (fo.2 * m.2) := by
      have : G.1 = G.2 * q + R := r2.symm
      rw [this] at g1
      grind
    refine ⟨q, v - q * (fo.2 * m.2), ?_, ?_, by rw [← hv]; omega, eq.symm ▸ rfl, ?_, p2, ?_, p4⟩
    · have : 0 ≤ R * (fo.2 * m.2) := Int.mul_nonneg r0 (Int.le_of_lt pos)
      rw [← b1] at this
      exact Int.nonneg_of_mul_nonneg_left this g2
    · have : R * (fo.2 * m.2) < G.2 * (fo.2 * m.2) := Int.mul_lt_mul_of_pos_right r1 pos
      rw [← b1, Int.mul_comm G.2] at this
      exact Int.lt_of_mul_lt_mul_right this (Int.le_of_lt g2)
    · refine cancel x2 (cancel g2 ?_)
      grind
    · refine Int.le_trans p3 ?_
      have : X.2 ≤ fo.2 * m.2 := by omega
      exact Int.mul_le_mul_of_nonneg_right this (by omega)
  unfold plc
  refine key _ ?_
  unfold sgn
  split
  · exact ⟨m.1 * fo.2 - fo.1 * m.2, by omega, by unfold mi; rw [Int.mul_comm m.2 fo.2]⟩
  · exact ⟨fo.1 * m.2 - m.1 * fo.2, by omega, by unfold mi; rfl⟩
theorem len_eq {t : Int} {fo x : Int × Int} (mf : 0 < fo.2) (px : 0 < x.2) :
    (lenAt t fo x).1 * (fo.2 * x.2) = (t * x.1 * fo.2 + fo.1 * x.2) * (lenAt t fo x).2 ∧ 0 < (lenAt t fo x).2 ∧ (lenAt t fo x).2 ≤ x.2 * fo.2 ∧ Nat.gcd (lenAt t fo x).1.natAbs (lenAt t fo x).2.natAbs = 1 := by
  unfold lenAt
  obtain ⟨t1, t2, t3, _⟩ := fr_eq (t := t * x.1) (b := 1 * x.2) (by omega)
  have et : ti (t, 1) x = fr (t * x.1) (1 * x.2) := rfl
  rw [et]
  generalize fr (t * x.1) (1 * x.2) = T at t1 t2 t3 ⊢
  obtain ⟨l1, l2, l3, l4⟩ := fr_eq (t := T.1 * fo.2 + fo.1 * T.2) (b := T.2 * fo.2) (Int.mul_pos t2 mf)
  have el : pl T fo = fr (T.1 * fo.2 + fo.1 * T.2) (T.2 * fo.2) := rfl
  rw [el]
  generalize fr (T.1 * fo.2 + fo.1 * T.2) (T.2 * fo.2) = L at l1 l2 l3 l4 ⊢
  refine ⟨?_, l2, Int.le_trans l3 (Int.mul_le_mul_of_nonneg_right (by omega) (Int.le_of_lt mf)), l4⟩
  refine cancel t2 ?_
  grind
theorem sgn_ab {t : Int} (tr : Trn t) : (sgn t = 1 ∨ sgn t = -1) ∧ sgn t * ab t = t := by
  have := tr.n
  unfold sgn ab
  split
  · exact ⟨.inl rfl, by split <;> omega⟩
  · exact ⟨.inr rfl, by split <;> omega⟩
/-- the place of a mantissa: within its stretch, a position -/
theorem plc_pos {t s : Int} {fo m : Int × Int} (tr : Trn t) (mf : Mn fo) (mm : Mn m) (s0 : 0 ≤ s) (s1 : s < ab t) :
    s * (plc t fo s m).2 ≤ (plc t fo s m).1 * ab t ∧ (plc t fo s m).1 * ab t < (s + 1) * (plc t fo s m).2 ∧ Pos (plc t fo s m) := by
  have f2 : 0 < fo.2 := mf.m.sm.p
  have m2 : 0 < m.2 := mm.m.sm.p
  have a1 := tr.ab1
  obtain ⟨q, b, b0, b1, _, _, e, p0, p1, pg⟩ := plc_eq (s := s) tr f2 m2
  have F0 : 0 < fo.2 * m.2 := Int.mul_pos f2 m2
  have F1 : fo.2 * m.2 ≤ 10 ^ 6 * 10 ^ 6 := Int.mul_le_mul mf.s mm.s (Int.le_of_lt m2) (by decide)
  generalize plc t fo s m = P at e p0 p1 pg ⊢
  generalize fo.2 * m.2 = F at b1 e p1 F0 F1
  have lo : s * P.2 ≤ P.1 * ab t := by
    refine Int.le_of_mul_le_mul_right (a := F) ?_ F0
    have : 0 ≤ b * P.2 := Int.mul_nonneg b0 (Int.le_of_lt p0)
    have e2 : P.1 * ab t * F = s * P.2 * F + b * P.2 := by grind
    omega
  have hi : P.1 * ab t < (s + 1) * P.2 := by
    refine Int.lt_of_mul_lt_mul_right (a := F) ?_ (Int.le_of_lt F0)
    have : b * P.2 < F * P.2 := Int.mul_lt_mul_of_pos_right b1 p0
    have e2 : P.1 * ab t * F = s * P.2 * F + b * P.2 := by grind
    have e3 : (s + 1) * P.2 * F = s * P.2 * F + F * P.2 := by grind
    omega
  refine ⟨lo, hi, ?_, ?_, p0, pg, ?_⟩
  · have h0 : 0 ≤ P.1 * ab t := Int.le_trans (Int.mul_nonneg s0 (Int.le_of_lt p0)) lo
    exact Int.nonneg_of_mul_nonneg_left h0 (by omega)
  · have h1 : (s + 1) * P.2 ≤ ab t * P.2 := Int.mul_le_mul_of_nonneg_right (by omega) (Int.le_of_lt p0)
    have h2 : P.1 * ab t < P.2 * ab t := by
      rw [Int.mul_comm P.2]
      omega
    exact Int.le_of_lt (Int.lt_of_mul_lt_mul_right h2 (by omega))
  · have h3 : F * ab t ≤ 10 ^ 6 * 10 ^ 6 * 3 := Int.mul_le_mul F1 a1.2 (by omega) (by decide)
    have h4 : (10 : Int) ^ 6 * 10 ^ 6 * 3 < 2 ^ 60 := by decide
    omega
/-- the whole number that the law takes off -/
def qOf (t : Int) (fo m : Int × Int) : Int := flr (if 0 < t then mi m fo else mi fo m)
theorem back_place {t s : Int} {fo m : Int × Int} (tr : Trn t) (mf : Man fo) (mm : Man m) : flr (lenAt t fo (plc t fo s m)) = sgn t * (s - qOf t fo m) ∧ pt (lenAt t fo (plc t fo s m)) = m := by
  have f2 : 0 < fo.2 := mf.sm.p
  have m2 : 0 < m.2 := mm.sm.p
  obtain ⟨q, b, b0, b1, eb, eq, e, p0, _, _⟩ := plc_eq (s := s) tr f2 m2
  generalize plc t fo s m = P at e p0 ⊢
  obtain ⟨l1, l2, _, lg⟩ := len_eq (t := t) f2 p0
  generalize lenAt t fo P = L at l1 l2 lg ⊢
  obtain ⟨sg, sa⟩ := sgn_ab tr
  unfold qOf
  rw [← eq]
  refine len_shift l2 lg mm.lo mm.hi mm.g ?_
  refine cancel (Int.mul_pos f2 p0) ?_
  generalize ab t = n at e sa
  rcases sg with sg | sg
  · rw [sg] at eb sa ⊢
    have : n = t := by omega
    subst this
    grind
  · rw [sg] at eb sa ⊢
    have : n = -t := by omega
    subst this
    grind
theorem alg1 {a b f g x y t k q r M : Int} (l : a * (g * y) = (t * x * g + f * y) * b) (ek : b * k + M = a) (eb : M * g - f * b = q * (g * b) + r) : r * y = (x * t - (k + q) * y) * (g * b) := by
  obtain rfl : M = a - b * k := by omega
  obtain rfl : r = (a - b * k) * g - f * b - q * (g * b) := by omega
  grind
theorem alg2 {a b f g x y t k q r M : Int} (l : a * (g * y) = (t * x * g + f * y) * b) (ek : b * k + M = a) (eb : f * b - M * g = q * (g * b) + r) : r * y = (x * -t - (q - k) * y) * (g * b) := by
  obtain rfl : M = a - b * k := by omega
  obtain rfl : r = f * b - (a - b * k) * g - q * (g * b) := by omega
  grind
theorem alg3 {p r n f j b x y : Int} (e : p * (n * f) = (j * f + b) * r) (h : b * y = (x * n - j * y) * f) : n * f * (p * y) = n * f * (x * r) := by
  have e2 : p * (n * f) * y = (j * f * y + b * y) * r := by
    rw [e]
    grind
  rw [h] at e2
  grind
theorem back_figure {t : Int} {fo x : Int × Int} (tr : Trn t) (mf : Man fo) (px : Pos x) (lt : x.1 < x.2) :
    0 ≤ x.1 * ab t / x.2 ∧ x.1 * ab t / x.2 < ab t ∧ plc t fo (x.1 * ab t / x.2) (pt (lenAt t fo x)) = x := by
  have f2 : 0 < fo.2 := mf.sm.p
  have x2 : 0 < x.2 := px.p
  have a1 := tr.ab1
  obtain ⟨l1, l2, _, lg⟩ := len_eq (t := t) f2 x2
  have m2 : 0 < (pt (lenAt t fo x)).2 := l2
  generalize hS : x.1 * ab t / x.2 = S
  have d0 := Int.emod_nonneg (x.1 * ab t) (Int.ne_of_gt x2)
  have d1 := Int.emod_lt_of_pos (x.1 * ab t) x2
  have d2 := Int.mul_ediv_add_emod (x.1 * ab t) x.2
  rw [hS] at d2
  generalize x.1 * ab t % x.2 = R at d0 d1 d2
  obtain ⟨q, b, b0, b1, eb, _, e, p0, _, pg⟩ := plc_eq (s := S) tr f2 m2
  have xa : 0 ≤ x.1 * ab t := Int.mul_nonneg px.lo (by omega)
  have S0 : 0 ≤ S := by
    rw [← hS]
    exact Int.ediv_nonneg xa (Int.le_of_lt x2)
  have S1 : S < ab t := by
    rw [← hS]
    refine Int.ediv_lt_of_lt_mul x2 ?_
    rw [Int.mul_comm (ab t)]
    exact Int.mul_lt_mul_of_pos_right lt (by omega)
  refine ⟨S0, S1, ?_⟩
  generalize plc t fo S (pt (lenAt t fo x)) = P at e p0 pg ⊢
  have ek := Int.mul_ediv_add_emod (lenAt t fo x).1 (lenAt t fo x).2
  have em : (pt (lenAt t fo x)).1 = (lenAt t fo x).1 % (lenAt t fo x).2 := rfl
  have em2 : (pt (lenAt t fo x)).2 = (lenAt t fo x).2 := rfl
  rw [em2] at eb e b1
  generalize (pt (lenAt t fo x)).1 = M at em eb
  generalize lenAt t fo x = L at l1 l2 lg ek em eb e b1
  rw [← em] at ek
  generalize L.1 / L.2 = k at ek
  obtain ⟨sg, sa⟩ := sgn_ab tr
  have F0 : 0 < fo.2 * L.2 := Int.mul_pos f2 l2
  -- b / F is the rest of x * n
  have hb : ∃ j : Int, b * x.2 = (x.1 * ab t - j * x.2) * (fo.2 * L.2) := by
    rcases sg with sg | sg
    · rw [sg] at eb sa
      have : ab t = t := by omega
      rw [this]
      exact ⟨k + q, alg1 l1 ek (by omega)⟩
    · rw [sg] at eb sa
      have : ab t = -t := by omega
      rw [this]
      exact ⟨q - k, alg2 l1 ek (by omega)⟩
  obtain ⟨j, hj⟩ := hb
  have n1 := a1.1
  generalize ab t = n at e d2 hj n1
  generalize fo.2 * L.2 = F at b1 e hj F0
  have j0 : 0 ≤ x.1 * n - j * x.2 := by
    have : 0 ≤ (x.1 * n - j * x.2) * F := by
      rw [← hj]
      exact Int.mul_nonneg b0 (Int.le_of_lt x2)
    exact Int.nonneg_of_mul_nonneg_left this F0
  have j1 : x.1 * n - j * x.2 < x.2 := by
    have : (x.1 * n - j * x.2) * F < x.2 * F := by
      rw [← hj, Int.mul_comm x.2]
      exact Int.mul_lt_mul_of_pos_right b1 x2
    exact Int.lt_of_mul_lt_mul_right this (Int.le_of_lt F0)
  have jS : j = S := by
    rw [← d2] at j0 j1
    have h1 : (S - j) * x.2 < x.2 := by
      have : x.2 * S + R - j * x.2 = (S - j) * x.2 + R := by grind
      omega
    have h2 : -x.2 < (S - j) * x.2 := by
      have : x.2 * S + R - j * x.2 = (S - j) * x.2 + R := by grind
      omega
    have h3 : S - j < 1 := by
      refine Int.lt_of_mul_lt_mul_right (a := x.2) ?_ (Int.le_of_lt x2)
      omega
    have h4 : -1 < S - j := by
      refine Int.lt_of_mul_lt_mul_right (a := x.2) ?_ (Int.le_of_lt x2)
      omega
    omega
  subst jS
  obtain ⟨r1, r2⟩ := low_eq p0 x2 pg px.g (by
    have n0 : 0 < n * F := Int.mul_pos (by omega) F0
    exact cancel n0 (alg3 e hj))
  exact Prod.ext r1 r2
theorem len_ends {t : Int} {fo : Int × Int} (mf : Man fo) : flr (lenAt t fo (0, 1)) = 0 ∧ pt (lenAt t fo (0, 1)) = fo ∧ flr (lenAt t fo (1, 1)) = t ∧ pt (lenAt t fo (1, 1)) = fo := by
  have f2 : 0 < fo.2 := mf.sm.p
  obtain ⟨a1, a2, _, a4⟩ := len_eq (t := t) (x := (0, 1)) f2 (by decide)
  obtain ⟨b1, b2, _, b4⟩ := len_eq (t := t) (x := (1, 1)) f2 (by decide)
  obtain ⟨c1, c2⟩ := len_shift (k := 0) a2 a4 mf.lo mf.hi mf.g (by simp at a1 ⊢; exact a1)
  obtain ⟨d1, d2⟩ := len_shift (k := t) b2 b4 mf.lo mf.hi mf.g (by simp at b1 ⊢; exact b1)
  exact ⟨c1, c2, d1, d2⟩
end Qj
namespace Qj
open PySem PySem.Spec PyProof.Rows L2
theorem ix_listK {X : Cx} (K : PySem.W.Frag) (h : X.K = K) : IxR X (rIxL K) := by
  subst h
  exact ix_list
def spRight15 (K : PySem.W.Frag) (C : Addr) : Sp := fun vs H Q _ => ∃ (D r : Addr) (bd sd : List PyData) (i : Nat) (nm : Str) (t : Int) (fo : Int × Int), vs = [.ref D, .ref r, .str nm, .int t] ∧ DeckAt H D ∧ RuleAt K C D H r bd sd ∧ RowOk bd sd ∧ (bd ++ sd)[i]? = some (.tuple [.str nm, .int t, frD fo]) ∧ Trn t ∧ Mn fo ∧ noLA (bd ++ sd) = true ∧
  ∀ H', Bu D H H' → DeckAt H' D → Q (.bl true) H'
theorem noL_app (a b : List PyData) : noLA (a ++ b) = (noLA a && noLA b) := by
  induction a with
  | nil => rfl
  | cons d l ih =>
    show (noL d && noLA (l ++ b)) = ((noL d && noLA l) && noLA b)
    rw [ih, Bool.and_assoc]
theorem RuleAt.lst {K : PySem.W.Frag} {C D r F : Addr} {G : Hp} {bd sd : List PyData} {ys zs : List V} (h : RuleAt K C D G r bd sd) (hF : G F = some (.lst ys)) (n : noLA (bd ++ sd) = true) : RuleAt K C D (upd G F (.lst zs)) r bd sd := by
  rw [noL_app, Bool.and_eq_true] at n
  obtain ⟨dx, pb, ps, a, b, c⟩ := h.ob
  exact ⟨dx, pb, ps, by rw [upd_ne (fun e => by subst e; rw [hF] at a; cases a)]; exact a, b.only (fun _ _ z => sqT_lst hF z) _ (by simpa only [noL] using n.1), c.only (fun _ _ z => sqT_lst hF z) _ (by simpa only [noL] using n.2)⟩
theorem DeckAt.lst {D F : Addr} {G : Hp} {o : HO} (h : DeckAt G D) (n : F ≠ D) : DeckAt (upd G F o) D := by
  obtain ⟨g, m, c, hD, hm⟩ := h
  exact ⟨g, m, c, by rw [upd_ne n.symm]; exact hD, hm⟩
theorem man_pt {t : Int} {fo x : Int × Int} (mf : Mn fo) (px : Pos x) (xs : x.2 ≤ 10 ^ 9) : Man (pt (lenAt t fo x)) := by
  obtain ⟨_, l2, l3, lg⟩ := len_eq (t := t) mf.m.sm.p px.p
  generalize lenAt t fo x = L at l2 l3 lg ⊢
  refine ⟨Int.emod_nonneg _ (Int.ne_of_gt l2), Int.emod_lt_of_pos _ l2, ?_, ?_⟩
  · have z := Int.gcd_add_mul_right_left L.2 L.1 (-(L.1 / L.2))
    have e : L.1 + -(L.1 / L.2) * L.2 = L.1 % L.2 := by
      rw [Int.emod_def]
      grind
    rw [e] at z
    exact z.trans lg
  · have h1 : x.2 * fo.2 ≤ 10 ^ 9 * 10 ^ 6 := Int.mul_le_mul xs mf.s (Int.le_of_lt mf.m.sm.p) (by decide)
    have h2 : (10 : Int) ^ 9 * 10 ^ 6 < 2 ^ 60 := by decide
    show L.2 < 2 ^ 60
    omega
/-- the decades told -/
def decs (t q : Int) (n : Nat) : List Int := (List.range n).map fun (s : Nat) => sgn t * ((s : Int) - q)
theorem decs_next (t q : Int) (n : Nat) : decs t q (n + 1) = decs t q n ++ [sgn t * ((n : Int) - q)] := by
  unfold decs
  rw [List.range_succ, List.map_append]
  rfl
theorem decs_get {t q : Int} {n k : Nat} (h : k < n) : (decs t q n)[k]? = some (sgn t * ((k : Int) - q)) := by
  unfold decs
  rw [List.getElem?_map, List.getElem?_range h]
  rfl
theorem decs_len (t q : Int) (n : Nat) : (decs t q n).length = n := by
  unfold decs
  rw [List.length_map, List.length_range]
theorem decs_sm {t q : Int} {n : Nat} (hn : n ≤ 3) (hq : q.natAbs < 2 ^ 121) : ∀ d ∈ decs t q n, d.natAbs < 2 ^ 122 := by
  intro d hd
  obtain ⟨k, hk⟩ := List.mem_iff_getElem?.mp hd
  have lt : k < n := by
    have := (List.getElem?_eq_some_iff.mp hk).1
    rw [decs_len] at this
    exact this
  rw [decs_get lt] at hk
  cases hk
  have : ((k : Int) - q).natAbs < 2 ^ 122 := by omega
  unfold sgn
  split
  · rw [Int.one_mul]
    exact this
  · rw [Int.neg_mul, Int.one_mul, Int.natAbs_neg]
    exact this
theorem dp_ints {K : PySem.W.Frag} {H : Hp} : ∀ ns : List Int, DpAll K H (ns.map V.int) (ns.map PyData.int)
  | [] => .nil
  | n :: ns => .cons (.int n) (dp_ints ns)
theorem oka_ints {k : Nat} (h0 : 0 < k) (hk : k ≤ 1000) : ∀ ns : List Int, (∀ n ∈ ns, n.natAbs < 2 ^ k) → OkA (ns.map PyData.int) (ns.length * (k + 1)) 0
  | [], _ => oka_nil.mono (Nat.zero_le _) (Nat.le_refl _)
  | n :: ns, h => (oka_cons (okd_int (h n (List.mem_cons_self ..)) h0 hk) (oka_ints h0 hk ns fun m hm => h m (List.mem_cons_of_mem _ hm))).mono (by rw [List.length_cons, Nat.succ_mul]; omega) (by decide)
def bot7 : List Int := [1, 2, 3, 6, 7, 100, 10 ^ (9 : Int).toNat]
theorem bot_ok : ∀ b ∈ bot7, 1 ≤ b ∧ b ≤ 10 ^ 9 := by decide +kernel
theorem q_small {t : Int} {fo m : Int × Int} (mf : Man fo) (mm : Man m) : (qOf t fo m).natAbs < 2 ^ 121 := flr_lt (sm_behind mf.sm mm.sm)
end Qj
namespace Qj
open PySem PySem.Spec PyProof.Rows L2
/-! ### what is no rule -/
def itsD : PyData → List PyData
  | .tuple ds => ds
  | _ => []
/-- the word that applies, none for a rule -/
def ruleWord (b s : PyData) : Option Str :=
  if (dRow b && dRow s) = false then some "scales"
  else if (itsD b ++ itsD s).all (dScale capZ) = false then some "scale"
  else if ((itsD b ++ itsD s).map nmD).Nodup then none else some "name"
def insV (C dx : Addr) (bv sv : V) : HO := .ins C dx [("_body", bv), ("_slide", sv)]
def spInitX (K : PySem.W.Frag) (C B : Addr) : Sp := fun vs H Q E => ∃ (D r dx : Addr) (bv sv : V) (b s : PyData), vs = [.ref r, bv, sv] ∧ H r = some (.ins C dx []) ∧ Dt K D H bv b ∧ Dt K D H sv s ∧ shD b = true ∧ shD s = true ∧
  (ruleWord b s = none → ∀ H', (∀ a o, a ≠ r → H a = some o → H' a = some o) → H' r = some (insV C dx bv sv) → Q .non H') ∧
  ∀ wd, ruleWord b s = some wd → ∀ d H', Evl.Ex H H' → H' d = some (.xd [("word", .str wd)]) → E (.ref B) (some d) H'
theorem row_shape {b : PyData} (h : dRow b = true) : ∃ ds, b = .tuple ds ∧ ds.length ≤ 6 := by
  cases b with
  | tuple ds => exact ⟨ds, rfl, of_decide_eq_true h⟩
  | _ => cases h
theorem nodup_next {ns : List Str} {i n : Nat} {x : Str} {M : Key → Bool} (h : ns[i]? = some x) (sn : seenK (ns.take i) M) (le : n ≤ i) (iff : n = i ↔ (ns.take i).Nodup) : kNum M n (Sum.inr x) ≤ i + 1 ∧ (kNum M n (Sum.inr x) = i + 1 ↔ (ns.take (i + 1)).Nodup) := by
  rw [take_next h, List.nodup_append]
  unfold kNum
  split
  · rename_i m
    refine ⟨by omega, fun z => by omega, fun ⟨_, _, z⟩ => ?_⟩
    exact absurd rfl (z x ((sn x).mp m) x (List.mem_singleton.mpr rfl))
  · rename_i m
    refine ⟨by omega, fun z => ⟨iff.mp (by omega), by simp, fun a ha b hb e => ?_⟩, fun ⟨z, _, _⟩ => by rw [iff.mpr z]⟩
    rw [List.mem_singleton] at hb
    subst hb
    subst e
    exact m ((sn _).mpr ha)
def wordOr (o : Option Str) : Str := match o with
  | some w => w
  | none => "none"
def spWordL (K : PySem.W.Frag) : Sp := fun vs H Q _ => ∃ (D : Addr) (bv sv : V) (b s : PyData), vs = [bv, sv] ∧ Dt K D H bv b ∧ Dt K D H sv s ∧ shD b = true ∧ shD s = true ∧ ∀ H', Evl.Ex H H' → Q (.str (wordOr (ruleWord b s))) H'
end Qj
namespace Qj
open PySem PySem.Spec PyProof.Rows L2
theorem made_ex2 {C x dx : Addr} {H H' : Hp} (nx : H x = none) (ndx : H dx = none) (ne : dx ≠ x) (e : Evl.Ex (upd (upd H dx (.own x)) x (.ins C dx [])) H') : Evl.Ex H H' := by
  have n2 : (upd H dx (.own x)) x = none := by rw [upd_ne ne.symm]; exact nx
  exact ((ex_new ndx).trans (ex_new n2)).trans e
theorem made_ex {C x dx : Addr} {H H' : Hp} (nx : H x = none) (ndx : H dx = none) (ne : dx ≠ x) (keep : ∀ a o, a ≠ x → (upd (upd H dx (.own x)) x (.ins C dx [])) a = some o → H' a = some o) : Evl.Ex H H' := by
  have n2 : (upd H dx (.own x)) x = none := by rw [upd_ne ne.symm]; exact nx
  intro a o h
  exact keep a o (fun z => by subst z; rw [nx] at h; cases h) (((ex_new ndx).trans (ex_new n2)) a o h)
/-- a getter's promise -/
def spGet (C : Addr) (f : Str) : Sp := fun vs H Q _ => ∃ (a dx : Addr) (fs : List (Str × V)) (v : V), vs = [.ref a] ∧ H a = some (.ins C dx fs) ∧ fs.lookup f = some v ∧ Q v H
/-! ### the common rule -/
def comB : PyData := .tuple [.tuple [.str "A", .int 2, .tuple [.int 0, .int 1]], .tuple [.str "D", .int 1, .tuple [.int 0, .int 1]], .tuple [.str "K", .int 3, .tuple [.int 0, .int 1]]]
def comS : PyData := .tuple [.tuple [.str "B", .int 2, .tuple [.int 0, .int 1]], .tuple [.str "C", .int 1, .tuple [.int 0, .int 1]], .tuple [.str "CI", .int (-1), .tuple [.int 0, .int 1]]]
theorem com_rule : ruleWord comB comS = none := by decide +kernel
def spCommon (K : PySem.W.Frag) (C : Addr) : Sp := fun vs H Q _ => ∃ D : Addr, vs = [.ref C] ∧ ∀ (x dx : Addr) (bv sv : V) (H' : Hp), Evl.Ex H H' → H' x = some (insV C dx bv sv) → Dt K D H' bv comB → Dt K D H' sv comS → Q (.ref x) H'
theorem passAt0 {X : Cx} {σ : L2.St} : PassesAt (L2.CX X.prog X.w) X σ E0 := by
  intro pins H s e s' I h
  obtain ⟨a, B, H', cls, d, _, _, _, _, _, _, _, z⟩ := h
  exact z.elim
end Qj
namespace Qj
open PySem PySem.Spec PyProof.Rows L2
/-! ### drawn rows, and what is wrong with a scale -/
def turns6 : List Int := [1, 2, 3, -1, -2, -3]
theorem trn6 : ∀ t ∈ turns6, Trn t := by
  intro t h
  simp only [turns6, List.mem_cons, List.not_mem_nil, or_false] at h
  rcases h with rfl | rfl | rfl | rfl | rfl | rfl <;> exact ⟨by decide, by decide, by decide⟩
theorem cap_app2 {c : Nat} {z : Str} (h1 : 65 ≤ c) (h2 : c ≤ 90) (hz : z ∈ (["", "X", "ZZ"] : List Str)) : Cap ((⟨#[c]⟩ : Str) ++ z) ∧ ((⟨#[c]⟩ : Str) ++ z).cps[0]? = some c ∧ z.length ≤ 2 := by
  have e : ((⟨#[c]⟩ : Str) ++ z).cps = #[c] ++ z.cps := rfl
  have h0 : ∀ w : Array Nat, (#[c] ++ w)[0]? = some c := fun w => by simp [Array.getElem?_append]
  have al : ∀ w : Array Nat, (∀ x ∈ w.toList, 65 ≤ x ∧ x ≤ 90) → ∀ x ∈ (#[c] ++ w).toList, 65 ≤ x ∧ x ≤ 90 := fun w hw x hx => by
    rw [Array.toList_append] at hx
    rcases List.mem_append.mp hx with q | q
    · simp at q
      omega
    · exact hw x q
  simp only [List.mem_cons, List.not_mem_nil, or_false] at hz
  rcases hz with rfl | rfl | rfl
  · exact ⟨⟨by rw [e]; simp, by rw [e]; simp; decide, by rw [e]; exact al _ (by decide)⟩, by rw [e]; exact h0 _, by decide⟩
  · exact ⟨⟨by rw [e]; simp, by rw [e]; simp; decide, by rw [e]; exact al _ (by decide)⟩, by rw [e]; exact h0 _, by decide⟩
  · exact ⟨⟨by rw [e]; simp, by rw [e]; simp; decide, by rw [e]; exact al _ (by decide)⟩, by rw [e]; exact h0 _, by decide⟩
def spRow (K : PySem.W.Frag) : Sp := fun vs H Q _ => ∃ (D : Addr) (fs many : Int), vs = [.ref D, .int fs, .int many] ∧ DeckAt H D ∧ 0 ≤ fs ∧ fs ≤ 100 ∧ 0 ≤ many ∧ many ≤ 8 ∧
  ∀ (p : Addr) (ds : List PyData) (H' : Hp), Dt K D H' (.ref p) (.tuple ds) → (ds.length : Int) = many → Apart 3 fs ds → Bu D H H' → DeckAt H' D → Q (.ref p) H'
/-- the scale that is spoilt, its parts right -/
structure ScP (nm : Str) (t : Int) (fo : Int × Int) : Prop where
  n : Cap nm
  t : Trn t
  f : Man fo
def spBad (K : PySem.W.Frag) : Sp := fun vs H Q _ => ∃ (D p : Addr) (nm : Str) (t : Int) (fo : Int × Int), vs = [.ref D, .ref p] ∧ DeckAt H D ∧ Dt K D H (.ref p) (.tuple [.str nm, .int t, frD fo]) ∧ ScP nm t fo ∧
  ∀ (v : V) (d : PyData) (H' : Hp), Dt K D H' v d → dScale capZ d = false → shD d = true → Bu D H H' → DeckAt H' D → Q v H'
def badN : List PyData := [.str "d", .str "ABCD", .str "", .str "A1", .str "A\n", .int 1]
def badT (t : Int) : List PyData := [.int 0, .int 4, .int (-4), .bool true, .tuple [.int t, .int 1]]
def badF : List PyData := [frD (1, 1), frD (-1, 2), frD (2, 4), .int 0, frD (3, 2)]
def badAll (nm : Str) (t : Int) (fo : Int × Int) : List PyData :=
  badN.map (fun d => .tuple [d, .int t, frD fo]) ++ (badT t).map (fun d => .tuple [.str nm, d, frD fo]) ++ badF.map (fun d => .tuple [.str nm, .int t, d]) ++
    [.tuple [.str nm, .int t], .none, .str nm, .tuple [.str nm, .int t, frD fo, .int 1], .list [.str nm, .int t, frD fo]]
theorem bad_ok {nm : Str} {t : Int} {fo : Int × Int} (h : ScP nm t fo) : ∀ d ∈ badAll nm t fo, dScale capZ d = false ∧ shD d = true := by
  have sn : decide (nm.cps.size ≤ 1000) = true := decide_eq_true (Nat.le_trans h.n.hi (by decide))
  have key : ∀ a b c : PyData, dScale capZ (.tuple [a, b, c]) = (dWord capZ a && (dTurns b && dMant c)) := fun _ _ _ => rfl
  have sh3 : ∀ a b c : PyData, shD (.tuple [a, b, c]) = (shD a && (shD b && (shD c && true))) := fun _ _ _ => rfl
  have shN : shD (.str nm) = true := sn
  have shF : ∀ x : Int × Int, shD (frD x) = true := fun _ => rfl
  intro d hd
  unfold badAll at hd
  rw [List.mem_append, List.mem_append, List.mem_append, List.mem_map, List.mem_map, List.mem_map] at hd
  rcases hd with ((⟨x, hx, rfl⟩ | ⟨x, hx, rfl⟩) | ⟨x, hx, rfl⟩) | hd
  · have z : ∀ x ∈ badN, dWord capZ x = false ∧ shD x = true := by decide +kernel
    obtain ⟨z1, z2⟩ := z x hx
    rw [key, z1, sh3, z2, shF]
    exact ⟨rfl, rfl⟩
  · have z : dTurns x = false ∧ shD x = true := by
      simp only [badT, List.mem_cons, List.not_mem_nil, or_false] at hx
      rcases hx with rfl | rfl | rfl | rfl | rfl <;> first | exact ⟨by decide, by decide⟩ | exact ⟨rfl, rfl⟩
    rw [key, z.1, sh3, z.2, shF, shN, Bool.false_and, Bool.and_false]
    exact ⟨rfl, rfl⟩
  · have z : ∀ x ∈ badF, dMant x = false ∧ shD x = true := by decide +kernel
    obtain ⟨z1, z2⟩ := z x hx
    rw [key, z1, sh3, z2, shN, Bool.and_false, Bool.and_false]
    exact ⟨rfl, rfl⟩
  · simp only [List.mem_cons, List.not_mem_nil, or_false] at hd
    rcases hd with rfl | rfl | rfl | rfl | rfl
    · exact ⟨rfl, by show (shD (.str nm) && _) = true; rw [shN]; rfl⟩
    · exact ⟨rfl, rfl⟩
    · exact ⟨rfl, shN⟩
    · exact ⟨rfl, by show (shD (.str nm) && _) = true; rw [shN]; rfl⟩
    · exact ⟨rfl, by show (shD (.str nm) && _) = true; rw [shN]; rfl⟩
theorem bad_len (nm : Str) (t : Int) (fo : Int × Int) : (badAll nm t fo).length = 21 := rfl
end Qj
namespace Qj
open PySem PySem.Spec PyProof.Rows L2
theorem noLA_of : ∀ {ds : List PyData}, (∀ d ∈ ds, noL d = true) → noLA ds = true
  | [], _ => rfl
  | d :: ds, h => by
    show (noL d && noLA ds) = true
    rw [h d (List.mem_cons_self ..), noLA_of fun x hx => h x (List.mem_cons_of_mem _ hx)]
    rfl
/-- a new tuple more in the list at C -/
theorem comp_step {K : PySem.W.Frag} {D C q : Addr} {G : Hp} {vs xs : List V} {ds es : List PyData} (hC : G C = some (.lst vs)) (nq : G q = none) (da : DtA K D G vs ds) (nl : noLA ds = true) (dx : DtA K D G xs es) (ne : noLA es = true) :
    DtA K D (upd (upd G q (.tup xs)) C (.lst (vs ++ [.ref q]))) (vs ++ [.ref q]) (ds ++ [.tuple es]) := by
  have x := ex_new (o := .tup xs) nq
  have hC2 := x _ _ hC
  have hq : (upd (upd G q (.tup xs)) C (.lst (vs ++ [.ref q]))) q = some (.tup xs) := by
    rw [upd_ne (fun z => by subst z; rw [nq] at hC; cases hC)]
    exact upd_same
  exact ((da.ex x).only (fun a ws h => sqT_lst hC2 h) _ nl).app (.cons (.tup (SqT.of hq) ((dx.ex x).only (fun a ws h => sqT_lst hC2 h) _ ne)) .nil)
def mkN (t : Int) (fo : Int × Int) (d : PyData) : PyData := .tuple [d, .int t, frD fo]
def mkT (nm : Str) (fo : Int × Int) (d : PyData) : PyData := .tuple [.str nm, d, frD fo]
def mkF (nm : Str) (t : Int) (d : PyData) : PyData := .tuple [.str nm, .int t, d]
theorem noL_mk (l : List PyData) (h : ∀ d ∈ l, noL d = true) (nm : Str) (t : Int) (fo : Int × Int) (i : Nat) : noLA ((l.take i).map (mkN t fo)) = true ∧ noLA ((l.take i).map (mkT nm fo)) = true ∧ noLA ((l.take i).map (mkF nm t)) = true := by
  have nf : noL (frD fo) = true := rfl
  refine ⟨noLA_of fun x hx => ?_, noLA_of fun x hx => ?_, noLA_of fun x hx => ?_⟩
  all_goals
    obtain ⟨d, hd, rfl⟩ := List.mem_map.mp hx
    have nd := h d (List.mem_of_mem_take hd)
  · show (noL d && (noL (.int t) && (noL (frD fo) && true))) = true
    rw [nd, nf]
    rfl
  · show (noL (.str nm) && (noL d && (noL (frD fo) && true))) = true
    rw [nd, nf]
    rfl
  · show (noL (.str nm) && (noL (.int t) && (noL d && true))) = true
    rw [nd]
    rfl
theorem no_badN : ∀ d ∈ badN, noL d = true := by decide +kernel
theorem no_badT (t : Int) : ∀ d ∈ badT t, noL d = true := by
  intro d h
  simp only [badT, List.mem_cons, List.not_mem_nil, or_false] at h
  rcases h with rfl | rfl | rfl | rfl | rfl <;> rfl
theorem no_badF : ∀ d ∈ badF, noL d = true := by decide +kernel
end Qj
namespace Qj
open PySem PySem.Spec PyProof.Rows L2
/-! ### tuples cut and joined, by what they hold; what spoils a rule -/
theorem Dt.tupA {K : PySem.W.Frag} {D : Addr} {H : Hp} {v : V} {ds : List PyData} (h : Dt K D H v (.tuple ds)) : ∃ a xs, v = .ref a ∧ SqT K H a xs ∧ DtA K D H xs ds := by
  cases h with
  | @tup a xs _ t g => exact ⟨a, xs, rfl, t, g⟩
theorem sl_to {K : PySem.W.Frag} {D : Addr} {H : Hp} {v : V} {ds : List PyData} {k : Nat} {Q : VK} (h : Dt K D H v (.tuple ds)) (q : ∀ (p : Addr) (H' : Hp), Dt K D H' (.ref p) (.tuple (ds.take k)) → Evl.Ex H H' → Q (.ref p) H') : rSlA K v none (some (k : Int)) H Q := by
  obtain ⟨a, xs, rfl, t, g⟩ := h.tupA
  refine ⟨a, xs, rfl, t, fun hw => ?_, fun hw p np => ?_⟩
  · rw [HT.sIx_none, HT.sIx_nat] at hw
    have e : ds.take k = ds := List.take_of_length_le (by rw [← g.len]; omega)
    exact q a H (by rw [e]; exact .tup t g) (Evl.Ex.refl _)
  · have e : cutV xs none (some (k : Int)) = xs.take k := by
      unfold cutV
      rw [HT.sIx_none, HT.sIx_nat, List.drop_zero, Nat.sub_zero]
      by_cases l : k ≤ xs.length
      · rw [Nat.min_eq_left l]
      · rw [Nat.min_eq_right (by omega), List.take_of_length_le (Nat.le_refl _), List.take_of_length_le (by omega)]
    have x := ex_new (o := .tup (cutV xs none (some (k : Int)))) np
    refine q p _ (.tup (SqT.of upd_same) ?_) x
    rw [e]
    rw [e] at x
    exact (g.take k).ex x
theorem sl_from {K : PySem.W.Frag} {D : Addr} {H : Hp} {v : V} {ds : List PyData} {k : Nat} {Q : VK} (h : Dt K D H v (.tuple ds)) (q : ∀ (p : Addr) (H' : Hp), Dt K D H' (.ref p) (.tuple (ds.drop k)) → Evl.Ex H H' → Q (.ref p) H') : rSlA K v (some (k : Int)) none H Q := by
  obtain ⟨a, xs, rfl, t, g⟩ := h.tupA
  refine ⟨a, xs, rfl, t, fun hw => ?_, fun hw p np => ?_⟩
  · rw [HT.sIx_nat] at hw
    have e : ds.drop k = ds := by
      by_cases z : k = 0
      · subst z
        rfl
      · have : xs.length = 0 := by omega
        rw [g.len] at this
        rw [List.length_eq_zero_iff.mp this]
        simp
    exact q a H (by rw [e]; exact .tup t g) (Evl.Ex.refl _)
  · have e : cutV xs (some (k : Int)) none = xs.drop k := by
      unfold cutV
      rw [HT.sIx_none, HT.sIx_nat]
      by_cases l : k ≤ xs.length
      · rw [Nat.min_eq_left l, List.take_of_length_le (by rw [List.length_drop]; exact Nat.le_refl _)]
      · rw [Nat.min_eq_right (by omega), List.drop_of_length_le (Nat.le_refl _), List.drop_of_length_le (by omega)]
        simp
    have x := ex_new (o := .tup (cutV xs (some (k : Int)) none)) np
    refine q p _ (.tup (SqT.of upd_same) ?_) x
    rw [e]
    rw [e] at x
    exact (g.drop k).ex x
theorem cat_dt {K : PySem.W.Frag} {D : Addr} {H : Hp} {v w : V} {ds es : List PyData} {Q : VK} (h : Dt K D H v (.tuple ds)) (h2 : Dt K D H w (.tuple es)) (few : ds.length + es.length ≤ 1000) (q : ∀ (p : Addr) (H' : Hp), Dt K D H' (.ref p) (.tuple (ds ++ es)) → Evl.Ex H H' → Q (.ref p) H') : rCatA K v w H Q := by
  obtain ⟨a, xs, rfl, t, g⟩ := h.tupA
  obtain ⟨b, ys, rfl, u, g2⟩ := h2.tupA
  refine ⟨a, b, xs, ys, rfl, rfl, t, u, by rw [g.len, g2.len, sizeLine_eq]; omega, fun z => ?_, fun z z2 => ?_, fun z z2 p np => ?_⟩
  · subst z
    have := g.len
    rw [List.length_eq_zero_iff.mp this.symm] at q
    exact q b H (.tup u g2) (Evl.Ex.refl _)
  · subst z2
    have := g2.len
    rw [List.length_eq_zero_iff.mp this.symm, List.append_nil] at q
    exact q a H (.tup t g) (Evl.Ex.refl _)
  · have x := ex_new (o := .tup (xs ++ ys)) np
    exact q p _ (.tup (SqT.of upd_same) ((g.app g2).ex x)) x
def insAt (k : Nat) (x : PyData) (ds : List PyData) : List PyData := ds.take k ++ [x] ++ ds.drop k
theorem insAt_len (k : Nat) (x : PyData) (ds : List PyData) : (insAt k x ds).length = ds.length + 1 := by
  unfold insAt
  rw [List.length_append, List.length_append, List.length_take, List.length_drop, List.length_singleton]
  omega
theorem insAt_mem {k : Nat} {x y : PyData} {ds : List PyData} : y ∈ insAt k x ds ↔ y = x ∨ y ∈ ds := by
  unfold insAt
  rw [List.mem_append, List.mem_append, List.mem_singleton]
  refine ⟨fun h => ?_, fun h => ?_⟩
  · rcases h with (h | h) | h
    · exact .inr (List.mem_of_mem_take h)
    · exact .inl h
    · exact .inr (List.mem_of_mem_drop h)
  · rcases h with h | h
    · exact .inl (.inr h)
    · rw [← List.take_append_drop k ds, List.mem_append] at h
      rcases h with h | h
      · exact .inl (.inl h)
      · exact .inr h
theorem insAt_perm (k : Nat) (x : PyData) (ds : List PyData) : (insAt k x ds).Perm (x :: ds) := by
  unfold insAt
  have a : (ds.take k ++ [x] ++ ds.drop k).Perm ([x] ++ ds.take k ++ ds.drop k) := List.Perm.append_right _ List.perm_append_comm
  refine a.trans ?_
  rw [List.append_assoc, List.take_append_drop]
  exact List.Perm.refl _
theorem row_d {ds : List PyData} (h : ds.length ≤ 6) : dRow (.tuple ds) = true := decide_eq_true h
theorem word_scales {b s : PyData} (h : dRow b = false ∨ dRow s = false) : ruleWord b s = some ("scales" : Str) := by
  unfold ruleWord
  refine if_pos ?_
  rcases h with h | h <;> rw [h]
  · rfl
  · rw [Bool.and_false]
theorem rows_no {bs ss : List PyData} (h1 : bs.length ≤ 6) (h2 : ss.length ≤ 6) : ¬ (dRow (.tuple bs) && dRow (.tuple ss)) = false := by
  rw [row_d h1, row_d h2]
  decide
theorem its_app (bs ss : List PyData) : itsD (.tuple bs) ++ itsD (.tuple ss) = bs ++ ss := rfl
theorem word_scale {bs ss : List PyData} (h1 : bs.length ≤ 6) (h2 : ss.length ≤ 6) {d : PyData} (h : d ∈ bs ++ ss) (z : dScale capZ d = false) : ruleWord (.tuple bs) (.tuple ss) = some ("scale" : Str) := by
  have q : (itsD (.tuple bs) ++ itsD (.tuple ss)).all (dScale capZ) = false := by
    rw [its_app, ← Bool.not_eq_true, List.all_eq_true]
    intro q
    rw [q d h] at z
    cases z
  unfold ruleWord
  rw [if_neg (rows_no h1 h2), if_pos q]
theorem word_name {bs ss : List PyData} (h1 : bs.length ≤ 6) (h2 : ss.length ≤ 6) (h : ∀ d ∈ bs ++ ss, dScale capZ d = true) (n : ¬ ((bs ++ ss).map nmD).Nodup) : ruleWord (.tuple bs) (.tuple ss) = some ("name" : Str) := by
  have q : ¬ (itsD (.tuple bs) ++ itsD (.tuple ss)).all (dScale capZ) = false := by
    rw [its_app, List.all_eq_true.mpr h]
    decide
  have n' : ¬ ((itsD (.tuple bs) ++ itsD (.tuple ss)).map nmD).Nodup := n
  unfold ruleWord
  rw [if_neg (rows_no h1 h2), if_neg q, if_neg n']
theorem word_none {bs ss : List PyData} (h1 : bs.length ≤ 6) (h2 : ss.length ≤ 6) (h : ∀ d ∈ bs ++ ss, dScale capZ d = true) (n : ((bs ++ ss).map nmD).Nodup) : ruleWord (.tuple bs) (.tuple ss) = none := by
  have q : ¬ (itsD (.tuple bs) ++ itsD (.tuple ss)).all (dScale capZ) = false := by
    rw [its_app, List.all_eq_true.mpr h]
    decide
  have n' : ((itsD (.tuple bs) ++ itsD (.tuple ss)).map nmD).Nodup := n
  unfold ruleWord
  rw [if_neg (rows_no h1 h2), if_neg q, if_pos n']
theorem twin_dup {L : List PyData} {t d : PyData} {ds : List PyData} (p : L.Perm (t :: ds)) (m : d ∈ ds) (e : nmD t = nmD d) : ¬ (L.map nmD).Nodup := by
  intro n
  have n2 := (p.map nmD).nodup_iff.mp n
  rw [List.map_cons, List.nodup_cons] at n2
  exact n2.1 (by rw [e]; exact List.mem_map_of_mem m)
theorem three_apart {fs : Int} {n : Nat} (hn : n ≤ 12) : ∀ i j : Nat, i < j → j < n → (fs + 3 * (i : Int)) % 26 ≠ (fs + 3 * (j : Int)) % 26 := by
  intro i j h1 h2
  omega
theorem apart_app {fs gs : Int} {bs ss : List PyData} (h : Apart 3 fs bs) (g : Apart 3 gs ss) (e : gs = fs + 3 * (bs.length : Int)) : Apart 3 fs (bs ++ ss) := by
  intro j d hj
  by_cases l : j < bs.length
  · rw [List.getElem?_append_left l] at hj
    exact h j d hj
  · rw [List.getElem?_append_right (by omega)] at hj
    obtain ⟨a, b⟩ := g _ d hj
    refine ⟨a, ?_⟩
    rw [b, e]
    congr 3
    omega
theorem apart_sc {st fs : Int} {ds : List PyData} (h : Apart st fs ds) : ∀ d ∈ ds, Sc d := fun d hd => by
  obtain ⟨j, hj⟩ := List.mem_iff_getElem?.mp hd
  exact (h j d hj).1
theorem trn_p {t : Int} (h0 : 1 ≤ t) (h1 : t ≤ 3) : Trn t := trn6 t (by
  have : t = 1 ∨ t = 2 ∨ t = 3 := by omega
  rcases this with rfl | rfl | rfl <;> decide)
theorem sc_bad {nm : Str} {t : Int} {fo : Int × Int} (c : Cap nm) (tr : Trn t) (m : Mn fo) : ScP nm t fo := ⟨c, tr, m.m⟩
theorem capQ : Cap "Q" := ⟨by decide, by decide, by decide⟩
theorem mn0 : Mn (0, 1) := by
  first
  | exact ⟨⟨by decide, by decide, by decide, by decide⟩, by decide⟩
  | exact ⟨⟨by decide, by decide, by decide, by decide, by decide⟩, by decide⟩
theorem okd_cap {x : Str} (h : Cap x) : Okd (.str x) 3 0 := by
  refine ⟨?_, ?_, ?_, ?_, ?_⟩
  · simp only [PyData.showable]
  · simp only [PyData.hasDict]
  · simp only [PyData.leavesShort, List.all_eq_true, decide_eq_true_eq]
    intro c hc
    have := (h.all c hc).2
    omega
  · simp only [PyData.weight]
    exact h.hi
  · simp only [PyData.depth]
    omega
theorem okd_sc {d : PyData} (h : Sc d) : Okd d 200 5 := by
  obtain ⟨nm, t, fo, rfl, c, tr, m⟩ := h
  have t1 := tr.lo
  have t2 := tr.hi
  have m1 := m.m.lo
  have m2 := m.m.hi
  have m3 := m.s
  exact (okd_tup (oka_cons (okd_cap c) (oka_cons (okd_int (k := 30) (by omega) (by decide) (by decide)) (oka_cons (okd_fr (k := 30) (by omega) (by omega) (by decide) (by decide)) oka_nil)))).mono (by decide) (by decide)
theorem OkA.monoH {ds : List PyData} {n m n' m' : Nat} (h : OkA ds n m) (a : n ≤ n') (b : m ≤ m') : OkA ds n' m' := ⟨h.sh, h.nd, h.lv, Nat.le_trans h.wt a, Nat.le_trans h.dp b⟩
theorem oka_sc : ∀ {ds : List PyData}, (∀ d ∈ ds, Sc d) → OkA ds (201 * ds.length) 5
  | [], _ => oka_nil.monoH (Nat.zero_le _) (by decide)
  | d :: ds, h => (oka_cons (okd_sc (h d (List.mem_cons_self ..))) (oka_sc fun x hx => h x (List.mem_cons_of_mem _ hx))).monoH (by rw [List.length_cons]; omega) (by decide)
theorem okd_two {bs ss : List PyData} (h1 : bs.length ≤ 6) (h2 : ss.length ≤ 6) (b : ∀ d ∈ bs, Sc d) (s : ∀ d ∈ ss, Sc d) : Okd (.tuple [.tuple bs, .tuple ss]) 3000 20 :=
  (okd_tup (oka_cons ((okd_tup (oka_sc b)).mono (n' := 1206) (by omega) (Nat.le_refl _)) (oka_cons ((okd_tup (oka_sc s)).mono (n' := 1206) (by omega) (Nat.le_refl _)) oka_nil))).mono (by decide) (by decide)
def itsB : List PyData := [.tuple [.str "A", .int 2, frD (0, 1)], .tuple [.str "D", .int 1, frD (0, 1)], .tuple [.str "K", .int 3, frD (0, 1)]]
def itsS : List PyData := [.tuple [.str "B", .int 2, frD (0, 1)], .tuple [.str "C", .int 1, frD (0, 1)], .tuple [.str "CI", .int (-1), frD (0, 1)]]
theorem com_eq : comB = .tuple itsB ∧ comS = .tuple itsS := ⟨rfl, rfl⟩
theorem com_sc : ∀ d ∈ itsB ++ itsS, Sc d := by
  have tr : ∀ t : Int, t ∈ turns6 → Trn t := trn6
  intro d h
  simp only [itsB, itsS, List.cons_append, List.nil_append, List.mem_cons, List.not_mem_nil, or_false] at h
  rcases h with rfl | rfl | rfl | rfl | rfl | rfl <;> exact ⟨_, _, _, rfl, ⟨by decide, by decide, by decide⟩, tr _ (by decide), mn0⟩
theorem okd_com : Okd (.tuple [comB, comS]) 3000 20 := okd_two (bs := itsB) (ss := itsS) (by decide) (by decide) (fun d h => com_sc d (List.mem_append_left _ h)) (fun d h => com_sc d (List.mem_append_right _ h))
theorem okd_end : Okd (.list [.tuple [comB, comS], .tuple [comB, comS]]) 16000 60 := (okd_lst (oka_cons okd_com (oka_cons okd_com oka_nil))).mono (by decide) (by decide)
theorem shA_all : ∀ {ds : List PyData}, shA ds = true ↔ ∀ d ∈ ds, shD d = true
  | [] => ⟨fun _ d h => (nomatch h), fun _ => rfl⟩
  | d :: ds => by
    show (shD d && shA ds) = true ↔ _
    rw [Bool.and_eq_true, shA_all]
    constructor
    · rintro ⟨a, b⟩ x hx
      rcases List.mem_cons.mp hx with rfl | h
      · exact a
      · exact b x h
    · exact fun h => ⟨h d (List.mem_cons_self ..), fun x hx => h x (List.mem_cons_of_mem _ hx)⟩
theorem sh_ins {k : Nat} {x : PyData} {ds : List PyData} (a : shD x = true) (b : shD (.tuple ds) = true) : shD (.tuple (insAt k x ds)) = true := by
  refine shA_all.mpr fun d h => ?_
  rcases insAt_mem.mp h with rfl | h
  · exact a
  · exact shA_all.mp b d h
theorem word_ins {b s : List PyData} {k : Nat} {x : PyData} (z : dScale capZ x = false) (h1 : b.length < 6) (h2 : s.length ≤ 6) : ruleWord (.tuple (insAt k x b)) (.tuple s) = some ("scale" : Str) :=
  word_scale (by rw [insAt_len]; omega) h2 (List.mem_append_left _ (insAt_mem.mpr (.inl rfl))) z
theorem word_ins2 {b s : List PyData} {k : Nat} {x : PyData} (z : dScale capZ x = false) (h1 : b.length ≤ 6) (h2 : s.length < 6) : ruleWord (.tuple b) (.tuple (insAt k x s)) = some ("scale" : Str) :=
  word_scale h1 (by rw [insAt_len]; omega) (List.mem_append_right _ (insAt_mem.mpr (.inl rfl))) z
/-- what the round of the law holds -/
structure W5 (K : PySem.W.Frag) (D : Addr) (vb vs vo bad : V) (bs ss : List PyData) (db : PyData) (G : Hp) : Prop where
  b : Dt K D G vb (.tuple bs)
  s : Dt K D G vs (.tuple ss)
  o : Dt K D G vo (.tuple (bs ++ ss))
  d : Dt K D G bad db
  k : DeckAt G D
theorem W5.ex {K : PySem.W.Frag} {D : Addr} {vb vs vo bad : V} {bs ss : List PyData} {db : PyData} {G G' : Hp} (w : W5 K D vb vs vo bad bs ss db G) (e : Evl.Ex G G') : W5 K D vb vs vo bad bs ss db G' := ⟨w.b.ex e, w.s.ex e, w.o.ex e, w.d.ex e, w.k.ex e⟩
theorem W5.bu {K : PySem.W.Frag} {D : Addr} {vb vs vo bad : V} {bs ss : List PyData} {db : PyData} {G G' : Hp} (w : W5 K D vb vs vo bad bs ss db G) (e : Bu D G G') (k : DeckAt G' D) : W5 K D vb vs vo bad bs ss db G' := ⟨w.b.bu w.k e, w.s.bu w.k e, w.o.bu w.k e, w.d.bu w.k e, k⟩
theorem dt_one {K : PySem.W.Frag} {D p : Addr} {G : Hp} {v : V} {d : PyData} (h : Dt K D (upd G p (.tup [v])) v d) : Dt K D (upd G p (.tup [v])) (.ref p) (.tuple [d]) := .tup (SqT.of upd_same) (.cons h .nil)
end Qj
namespace Qj
open PySem PySem.Spec PyProof.Rows L2
/-! ### a statement of a body by itself, from one word to the next -/
def subS (s : Stmt) : List Stmt := match s with
  | .FunctionDef _ _ b _ _ _ _ _ _ _ => b
  | .For _ _ b _ _ => b
  | .While _ b _ _ => b
  | .If _ b _ _ => b
  | _ => []
def elsS (s : Stmt) : List Stmt := match s with
  | .If _ _ b _ => b
  | .For _ _ _ b _ => b
  | _ => []
def kid (i : Nat) (s : Stmt) : Stmt := (subS s).getD i (.Pass ⟨0, 0, 0, 0⟩)
def kidE (i : Nat) (s : Stmt) : Stmt := (elsS s).getD i (.Pass ⟨0, 0, 0, 0⟩)
def tr (Pre Post : L2.St → Hp → Prop) : TS := fun D σ H => Pre σ H ∧ ∀ σ' H', Post σ' H' → D.nx σ' H'
theorem ps_tr {X : Cx} {st : Stmt} {t : TS} {Pre Post : L2.St → Hp → Prop} (h : PS X st t) (ht : ∀ (D : Ends) σ H, Pre σ H → (∀ σ' H', Post σ' H' → D.nx σ' H') → t D σ H) : PS X st (tr Pre Post) :=
  ⟨fun pins s σ H D I h2 => h.run pins s σ H D I (ht D σ H h2.1 h2.2)⟩
theorem pss_tr {X : Cx} {st : List Stmt} {t : TS} {Pre Post : L2.St → Hp → Prop} (h : PSs X st t) (ht : ∀ (D : Ends) σ H, Pre σ H → (∀ σ' H', Post σ' H' → D.nx σ' H') → t D σ H) : PSs X st (tr Pre Post) :=
  ⟨fun pins s σ H D I h2 => h.run pins s σ H D I (ht D σ H h2.1 h2.2)⟩
theorem ps_trE {X : Cx} {st : Stmt} {ι : Type} {Pre Post : ι → L2.St → Hp → Prop} (h : ∀ i, PS X st (tr (Pre i) (Post i))) : PS X st (tr (fun σ H => ∃ i, Pre i σ H) (fun σ H => ∃ i, Post i σ H)) :=
  ⟨fun pins s σ H D I h2 => by
    obtain ⟨⟨i, h0⟩, hk⟩ := h2
    exact (h i).run pins s σ H D I ⟨h0, fun σ' H' q => hk σ' H' ⟨i, q⟩⟩⟩
/-! ### k12: the words between -/
structure R12 (K : PySem.W.Frag) (D : Addr) (fs : Int) (vb vs vo bad : V) (bs ss : List PyData) (db : PyData) (k : Nat) (G : Hp) : Prop where
  w : W5 K D vb vs vo bad bs ss db G
  f0 : 0 ≤ fs
  f1 : fs < 26
  lb : bs.length ≤ 6
  ls : ss.length ≤ 6
  sb : ∀ d ∈ bs, Sc d
  sl : ∀ d ∈ ss, Sc d
  bf : dScale capZ db = false
  bsh : shD db = true
theorem R12.ex {K : PySem.W.Frag} {D : Addr} {fs : Int} {vb vs vo bad : V} {bs ss : List PyData} {db : PyData} {k : Nat} {G G' : Hp} (r : R12 K D fs vb vs vo bad bs ss db k G) (e : Evl.Ex G G') : R12 K D fs vb vs vo bad bs ss db k G' := ⟨r.w.ex e, r.f0, r.f1, r.lb, r.ls, r.sb, r.sl, r.bf, r.bsh⟩
theorem R12.bu {K : PySem.W.Frag} {D : Addr} {fs : Int} {vb vs vo bad : V} {bs ss : List PyData} {db : PyData} {k : Nat} {G G' : Hp} (r : R12 K D fs vb vs vo bad bs ss db k G) (e : Bu D G G') (q : DeckAt G' D) : R12 K D fs vb vs vo bad bs ss db k G' := ⟨r.w.bu e q, r.f0, r.f1, r.lb, r.ls, r.sb, r.sl, r.bf, r.bsh⟩
theorem R12.shb {K : PySem.W.Frag} {D : Addr} {fs : Int} {vb vs vo bad : V} {bs ss : List PyData} {db : PyData} {k : Nat} {G : Hp} (r : R12 K D fs vb vs vo bad bs ss db k G) : shD (.tuple bs) = true := (all_sc r.sb).1
theorem R12.shs {K : PySem.W.Frag} {D : Addr} {fs : Int} {vb vs vo bad : V} {bs ss : List PyData} {db : PyData} {k : Nat} {G : Hp} (r : R12 K D fs vb vs vo bad bs ss db k G) : shD (.tuple ss) = true := (all_sc r.sl).1
theorem word_twin1 {bs ss : List PyData} {k : Nat} {td : PyData} (lb : bs.length ≤ 6) (ls : ss.length ≤ 6) (few : bs.length < 6) (hb : ∀ d ∈ bs, Sc d) (hs : ∀ d ∈ ss, Sc d) (ht : Sc td) (dup : ∃ d ∈ bs ++ ss, nmD td = nmD d) : ruleWord (.tuple (insAt k td bs)) (.tuple ss) = some ("name" : Str) := by
  obtain ⟨d, hd, e⟩ := dup
  refine word_name (by rw [insAt_len]; omega) ls (fun x hx => ?_) ?_
  · rcases List.mem_append.mp hx with h | h
    · rcases insAt_mem.mp h with rfl | h
      · exact ht.ok.1
      · exact (hb x h).ok.1
    · exact (hs x h).ok.1
  · exact twin_dup (t := td) (ds := bs ++ ss) ((insAt_perm k td bs).append_right ss) hd e
theorem word_twin2 {bs ss : List PyData} {k : Nat} {td : PyData} (lb : bs.length ≤ 6) (few : ss.length < 6) (hb : ∀ d ∈ bs, Sc d) (hs : ∀ d ∈ ss, Sc d) (ht : Sc td) (dup : ∃ d ∈ bs ++ ss, nmD td = nmD d) : ruleWord (.tuple bs) (.tuple (insAt k td ss)) = some ("name" : Str) := by
  obtain ⟨d, hd, e⟩ := dup
  refine word_name lb (by rw [insAt_len]; omega) (fun x hx => ?_) ?_
  · rcases List.mem_append.mp hx with h | h
    · exact (hb x h).ok.1
    · rcases insAt_mem.mp h with rfl | h
      · exact ht.ok.1
      · exact (hs x h).ok.1
  · refine twin_dup (t := td) (ds := bs ++ ss) ?_ hd e
    exact ((insAt_perm k td ss).append_left bs).trans List.perm_middle
theorem word_twin3 {bs ss : List PyData} {td db : PyData} (lb : bs.length ≤ 6) (few : ss.length < 5) (bf : dScale capZ db = false) : ruleWord (.tuple bs) (.tuple ([td] ++ ss ++ [db])) = some ("scale" : Str) :=
  word_scale lb (by rw [List.length_append, List.length_append, List.length_singleton, List.length_singleton]; omega) (List.mem_append_right _ (List.mem_append_right _ (List.mem_singleton.mpr rfl))) bf
theorem sh_two {x y : PyData} {ds : List PyData} (a : shD x = true) (b : shD (.tuple ds) = true) (c : shD y = true) : shD (.tuple ([x] ++ ds ++ [y])) = true := by
  refine shA_all.mpr fun d h => ?_
  rcases List.mem_append.mp h with h | h
  · rcases List.mem_append.mp h with h | h
    · rw [List.mem_singleton.mp h]
      exact a
    · exact shA_all.mp b d h
  · rw [List.mem_singleton.mp h]
    exact c
theorem sh_one {x : PyData} (a : shD x = true) : shD (.tuple [x]) = true := by
  show (shD x && true) = true
  rw [a]
  rfl
/-- what stands at 9 -/
def S9 (K : PySem.W.Frag) (a D : Addr) : L2.St → Hp → Prop := fun σ G => ∃ x2 fs vb vs x6 x7 bad vo k x11 x12 x13 x14 x15 x16 x17 x18 bs ss db,
  σ = [some (.ref a), some (.ref D), x2, some (.int fs), some vb, some vs, x6, x7, some bad, some vo, some (.int (k : Nat)), x11, x12, x13, x14, x15, x16, x17, x18] ∧ R12 K D fs vb vs vo bad bs ss db k G
/-- behind _law_more -/
def S10 (K : PySem.W.Frag) (a D : Addr) : L2.St → Hp → Prop := fun σ G => ∃ x2 fs vb vs x6 x7 bad vo k mo x12 x13 x14 x15 x16 x17 x18 bs ss db,
  σ = [some (.ref a), some (.ref D), x2, some (.int fs), some vb, some vs, x6, x7, some bad, some vo, some (.int (k : Nat)), some mo, x12, x13, x14, x15, x16, x17, x18] ∧ R12 K D fs vb vs vo bad bs ss db k G ∧
  Dt K D G mo (.tuple [.tuple (insAt k db bs), .tuple (insAt k db ss)])
/-- a twin drawn -/
def ST (K : PySem.W.Frag) (a D : Addr) : L2.St → Hp → Prop := fun σ G => ∃ x2 fs vb vs x6 x7 bad vo k x11 tw x14 x15 x16 x17 x18 bs ss db td,
  σ = [some (.ref a), some (.ref D), x2, some (.int fs), some vb, some vs, x6, x7, some bad, some vo, some (.int (k : Nat)), x11, some tw, some (.str "name"), x14, x15, x16, x17, x18] ∧ R12 K D fs vb vs vo bad bs ss db k G ∧
  Dt K D G tw td ∧ Sc td ∧ ss.length < 6 ∧ ∃ d ∈ bs ++ ss, nmD td = nmD d
/-- a long row drawn -/
def S14 (K : PySem.W.Frag) (a D : Addr) : L2.St → Hp → Prop := fun σ G => ∃ x2 fs vb vs x6 x7 bad vo k x11 x12 x13 lg x15 x16 x17 x18 bs ss db ls,
  σ = [some (.ref a), some (.ref D), x2, some (.int fs), some vb, some vs, x6, x7, some bad, some vo, some (.int (k : Nat)), x11, x12, x13, some lg, x15, x16, x17, x18] ∧ R12 K D fs vb vs vo bad bs ss db k G ∧
  Dt K D G lg (.tuple ls) ∧ 7 ≤ ls.length ∧ shD (.tuple ls) = true
/-- an odd row drawn -/
def S15 (K : PySem.W.Frag) (a D : Addr) : L2.St → Hp → Prop := fun σ G => ∃ x2 fs vb vs x6 x7 bad vo k x11 x12 x13 x14 od x16 x17 x18 bs ss db dd,
  σ = [some (.ref a), some (.ref D), x2, some (.int fs), some vb, some vs, x6, x7, some bad, some vo, some (.int (k : Nat)), x11, x12, x13, x14, some od, x16, x17, x18] ∧ R12 K D fs vb vs vo bad bs ss db k G ∧
  Dt K D G od dd ∧ dRow dd = false ∧ shD dd = true
def S16 (K : PySem.W.Frag) (a D : Addr) : L2.St → Hp → Prop := fun σ G => ∃ x2 x3 x4 x5 x6 x7 x8 x9 x10 x11 x12 x13 x14 x15 w x17 x18,
  σ = [some (.ref a), some (.ref D), x2, x3, x4, x5, x6, x7, x8, x9, x10, x11, x12, x13, x14, x15, some (.ref w), x17, x18] ∧ DeckAt G D ∧ H12 G w
where H12 (G : Hp) (w : Addr) : Prop := G w = some (.lst [.str "scales", .str "scales", .str "scales", .str "scales"])
def S17 (a D : Addr) : L2.St → Hp → Prop := fun σ G => ∃ x2 x3 x4 x5 x6 x7 x8 x9 x10 x11 x12 x13 x14 x15 x16 x17 x18, σ = [some (.ref a), some (.ref D), x2, x3, x4, x5, x6, x7, x8, x9, x10, x11, x12, x13, x14, x15, x16, x17, x18] ∧ DeckAt G D
end Qj
namespace Qj
open PySem PySem.Spec PyProof.Rows L2
/-! ### the values that are drawn, and their texts -/
/-- a value of one of the drawn kinds, and what it shows -/
inductive Vd (H : Hp) : V → PyData → Prop where
  | non : Vd H .non .none
  | tru : Vd H (.bl true) (.bool true)
  | int (i : Int) (h : i.natAbs < 2 ^ 30) : Vd H (.int i) (.int i)
  | num (i : Int) (h : i.natAbs < 2 ^ 30) : Vd H (.str (toString i)) (.str (toString i))
  | emp : Vd H (.str "") (.str "")
  | tup {a : Addr} {i j : Int} (hi : i.natAbs < 2 ^ 30) (hj : j.natAbs < 2 ^ 30) (e : H a = some (.tup [.int i, .int j])) : Vd H (.ref a) (.tuple [.int i, .int j])
  | nil {a : Addr} (e : H a = some (.tup [])) : Vd H (.ref a) (.tuple [])
  | lst {a : Addr} {i : Int} (h : i.natAbs < 2 ^ 30) (e : H a = some (.lst [.int i])) : Vd H (.ref a) (.list [.int i])
  | two {a : Addr} {i j : Int} (h : i.natAbs < 2 ^ 30) (hj : j.natAbs < 2 ^ 30) (e : H a = some (.lst [.int i, .int j])) : Vd H (.ref a) (.list [.int i, .int j])
  | dic {a : Addr} {x : Str} {i : Int} (hx : x = "x") (h : i.natAbs < 2 ^ 30) (e : H a = some (.dK [(.inr x, .int i)])) : Vd H (.ref a) (.dict [(.str x, .int i)])
theorem Vd.ex {H H' : Hp} {v : V} {d : PyData} (h : Vd H v d) (x : Evl.Ex H H') : Vd H' v d := by
  cases h with
  | non => exact .non
  | tru => exact .tru
  | int i h => exact .int i h
  | num i h => exact .num i h
  | emp => exact .emp
  | tup hi hj e => exact .tup hi hj (x _ _ e)
  | nil e => exact .nil (x _ _ e)
  | lst h e => exact .lst h (x _ _ e)
  | two h hj e => exact .two h hj (x _ _ e)
  | dic hx h e => exact .dic hx h (x _ _ e)
/-- the text's size is bounded -/
structure Szd (d : PyData) (n m : Nat) : Prop where
  sh : d.showable = true
  lv : d.leavesShort 1001 = true
  wt : d.weight ≤ n
  dp : d.depth ≤ m
theorem szd_okd {d : PyData} {n m : Nat} (h : Okd d n m) : Szd d n m := ⟨h.sh, h.lv, h.wt, h.dp⟩
theorem Szd.mono {d : PyData} {n m n' m' : Nat} (h : Szd d n m) (a : n ≤ n') (b : m ≤ m') : Szd d n' m' := ⟨h.sh, h.lv, Nat.le_trans h.wt a, Nat.le_trans h.dp b⟩
theorem szd_str {x : String} {n : Nat} (h : x.length ≤ n) : Szd (.str x) n 0 := by
  refine ⟨?_, ?_, ?_, ?_⟩
  · simp only [PyData.showable]
  · simp only [PyData.leavesShort, List.all_eq_true, decide_eq_true_eq]
    intro c hc
    rw [Str.ofString_eq_toList] at hc
    simp only [List.mem_map] at hc
    obtain ⟨y, _, rfl⟩ := hc
    have z := y.val.toNat_lt
    have e : y.toNat = y.val.toNat := rfl
    rw [e]
    omega
  · simp only [PyData.weight]
    have z := PySem.ofString_length x
    unfold Str.length at z
    omega
  · simp only [PyData.depth]
    omega
theorem Szd.size {d : PyData} {n m : Nat} (h : Szd d n m) (hn : n ≤ 16000) : d.shown.length ≤ sizeLine := by
  have e := PyData.shown_le 1001 (by decide) d h.lv
  have := h.wt
  rw [sizeLine_eq]
  omega
theorem szd_rep {d : PyData} {n m : Nat} (h : Szd d n m) : ∀ k : Nat, PyData.showableAll (List.replicate k d) = true ∧ PyData.leavesShortAll 1001 (List.replicate k d) = true ∧ PyData.weightAll (List.replicate k d) ≤ k * (n + 1) ∧ PyData.depthAll (List.replicate k d) ≤ m
  | 0 => by
    refine ⟨?_, ?_, ?_, ?_⟩
    · simp only [List.replicate, PyData.showableAll]
    · simp only [List.replicate, PyData.leavesShortAll]
    · simp only [List.replicate, PyData.weightAll]; omega
    · simp only [List.replicate, PyData.depthAll]; omega
  | k + 1 => by
    obtain ⟨a, b, c, e⟩ := szd_rep h k
    refine ⟨?_, ?_, ?_, ?_⟩
    · simp only [List.replicate, PyData.showableAll, h.sh, a, Bool.and_self]
    · simp only [List.replicate, PyData.leavesShortAll, h.lv, b, Bool.and_self]
    · simp only [List.replicate, PyData.weightAll]
      have := h.wt
      rw [Nat.add_mul]
      omega
    · simp only [List.replicate, PyData.depthAll]
      have := h.dp
      omega
theorem szd_lst {d : PyData} {n m : Nat} (h : Szd d n m) (k : Nat) : Szd (.list (List.replicate k d)) (k * (n + 1)) (m + 1) := by
  obtain ⟨a, b, c, e⟩ := szd_rep h k
  refine ⟨?_, ?_, ?_, ?_⟩
  · simp only [PyData.showable, a]
  · simp only [PyData.leavesShort, b]
  · simp only [PyData.weight]; exact c
  · simp only [PyData.depth]; omega
theorem Vd.sz {H : Hp} {v : V} {d : PyData} (h : Vd H v d) : Szd d 100 2 := by
  have i30 : ∀ {i : Int}, i.natAbs < 2 ^ 30 → Okd (.int i) 30 0 := fun h => okd_int h (by decide) (by decide)
  cases h with
  | non => exact (szd_okd okd_non).mono (by decide) (by decide)
  | tru => exact (szd_okd okd_bl).mono (by decide) (by decide)
  | int i h => exact (szd_okd (i30 h)).mono (by decide) (by decide)
  | num i h =>
    refine (szd_str (n := 31) ?_).mono (by decide) (by decide)
    exact int_text_length_le (a := i) (k := 30) (by decide) (PySem.Flt.log2_lt_of (by decide) h)
  | emp => exact (szd_str (x := "") (n := 0) (by decide)).mono (by decide) (by decide)
  | tup hi hj e => exact (szd_okd (okd_tup (oka_cons (i30 hi) (oka_cons (i30 hj) oka_nil)))).mono (by decide) (by decide)
  | nil e => exact (szd_okd (okd_tup oka_nil)).mono (by decide) (by decide)
  | lst h e => exact (szd_okd (okd_lst (oka_cons (i30 h) oka_nil))).mono (by decide) (by decide)
  | two h hj e => exact (szd_okd (okd_lst (oka_cons (i30 h) (oka_cons (i30 hj) oka_nil)))).mono (by decide) (by decide)
  | @dic a x i hx h e =>
    subst hx
    have z := szd_okd (i30 h)
    have y := szd_str (x := "x") (n := 1) (by decide)
    refine ⟨?_, ?_, ?_, ?_⟩
    · simp only [PyData.showable, PyData.showableKv, z.sh, Bool.and_self, Bool.true_and, Bool.and_true]
      have := z.sh
      simp only [PyData.showable] at this
      exact this
    · have a1 := z.lv
      have a2 := y.lv
      simp only [PyData.leavesShort, PyData.leavesShortKv] at a1 a2 ⊢
      rw [a1, a2]
      rfl
    · have a1 := z.wt
      have a2 := y.wt
      simp only [PyData.weight, PyData.weightKv] at a1 a2 ⊢
      omega
    · have a1 := z.dp
      have a2 := y.dp
      simp only [PyData.depth, PyData.depthKv] at a1 a2 ⊢
      omega
section
variable {X : Cx} {pins : List (Addr × Obj)} {σ : L2.St} {H : Hp} {s : Shared}
theorem Vd.reads (I : Inv X pins σ H s) {v : V} {d : PyData} {u : Value} (h : Vd H v d) (r : RelV v u) : ∃ as, Reads s.heap u d as ∧ (d.hasDict = true → sysModules ∉ as) := by
  cases h with
  | non => cases r; exact ⟨_, .none, fun z => by simp only [PyData.hasDict] at z; cases z⟩
  | tru => cases r; exact ⟨_, .bool _, fun z => by simp only [PyData.hasDict] at z; cases z⟩
  | int i h => obtain ⟨t, rfl⟩ := r; exact ⟨_, .int _ _, fun z => by simp only [PyData.hasDict] at z; cases z⟩
  | num i h => obtain ⟨t, rfl⟩ := r; exact ⟨_, .str _ _, fun z => by simp only [PyData.hasDict] at z; cases z⟩
  | emp => obtain ⟨t, rfl⟩ := r; exact ⟨_, .str _ _, fun z => by simp only [PyData.hasDict] at z; cases z⟩
  | tup hi hj e =>
    obtain ⟨as, q⟩ := Dp.reads I _ _ _ (Dp.tup (SqT.of e) (.cons (.int _) (.cons (.int _) .nil))) r
    exact ⟨as, q, fun z => by simp only [PyData.hasDict, PyData.hasDictAll] at z; cases z⟩
  | nil e =>
    obtain ⟨as, q⟩ := Dp.reads I _ _ _ (Dp.tup (SqT.of e) .nil) r
    exact ⟨as, q, fun z => by simp only [PyData.hasDict, PyData.hasDictAll] at z; cases z⟩
  | lst h e =>
    obtain ⟨as, q⟩ := Dp.reads I _ _ _ (Dp.lst (SqL.of e) (.cons (.int _) .nil)) r
    exact ⟨as, q, fun z => by simp only [PyData.hasDict, PyData.hasDictAll] at z; cases z⟩
  | two h hj e =>
    obtain ⟨as, q⟩ := Dp.reads I _ _ _ (Dp.lst (SqL.of e) (.cons (.int _) (.cons (.int _) .nil))) r
    exact ⟨as, q, fun z => by simp only [PyData.hasDict, PyData.hasDictAll] at z; cases z⟩
  | @dic a x i hx h e =>
    obtain rfl : u = Value.ref a := r
    obtain ⟨_, hs, vs, kv, o, es, ep, ho, xd, hd, ks, ps, nd⟩ := dk_of I.hok e
    have na : a ≠ sysModules := fun z => by rw [z] at hs; exact absurd hs (by decide)
    unfold KV at kv
    cases kv with
    | @cons p q _ _ f t =>
      cases t
      obtain ⟨qk, qv⟩ := q
      obtain ⟨f1, f2⟩ := f
      dsimp only at f1 f2
      subst f1
      obtain ⟨t1, rfl⟩ := f2
      cases hes : es.toList with
      | nil => rw [hes] at ps; cases ps
      | cons en r =>
        rw [hes] at ps
        cases ps with
        | cons a1 a2 a3 =>
          cases a3
          refine ⟨_, Reads.dict ho xd.1 hd (kvs := [(.str x, .int i)]) (as := [] ++ []) (bs := [] ++ []) ?_ ?_, fun _ => ?_⟩
          · rw [hes]
            rcases keyIs_shape (show keyIs (.inr x) en.key = true from a1) with ⟨j, t, c, _⟩ | ⟨y, t, c, ek⟩
            · cases c
            · cases c
              refine .cons ?_ .nil
              show Reads s.heap en.key (.str x) []
              rw [ek]
              exact .str _ _
          · rw [hes]
            refine .cons ?_ .nil
            show Reads s.heap en.val (.int i) []
            rw [a2]
            exact .int _ _
          · simp only [List.append_nil, List.mem_singleton]
            exact fun z => na z.symm
theorem reads_rep (I : Inv X pins σ H s) {v : V} {d : PyData} (h : Vd H v d) : ∀ (k : Nat) (us : List Value), Vals (List.replicate k v) us → ∃ as, ReadsAll s.heap us (List.replicate k d) as ∧ (d.hasDict = true → sysModules ∉ as)
  | 0, us, r => by
    cases r
    exact ⟨[], .nil, fun _ z => nomatch z⟩
  | k + 1, us, r => by
    cases r with
    | cons r1 r2 =>
      obtain ⟨as, q1, n1⟩ := h.reads I r1
      obtain ⟨bs, q2, n2⟩ := reads_rep I h k _ r2
      refine ⟨as ++ bs, .cons q1 q2, fun z y => ?_⟩
      rcases List.mem_append.mp y with y | y
      · exact n1 z y
      · exact n2 z y
/-- repr of a drawn value -/
def rRepV (K : PySem.W.Frag) : List V → Hp → VK → Prop := fun xs H Q => ∃ (v : V) (d : PyData), xs = [v] ∧ Vd H v d ∧ Q (.str d.shown) H
theorem cr_repV (K : PySem.W.Frag) (hg : X.A.guards = some []) (hu : X.A.units + 64 < cLine) : CallR X (.builtin "repr") (rRepV K) := by
  intro pins s σ H xs us Q I r h
  obtain ⟨v, d, e, hd, q⟩ := h
  subst e
  obtain ⟨u, hus, ru⟩ := vals1 r
  subst hus
  have sz := hd.sz
  have sl := sz.size (by decide)
  obtain ⟨as, rd, ns⟩ := hd.reads I ru
  have dp := sz.dp
  cases rd with
  | none => exact PySem.P.repr_of_none ⟨.str _, H, I.tok _, ⟨_, rfl⟩, q⟩
  | bool b => exact PySem.P.repr_of_bool ⟨.str _, H, I.tok _, ⟨_, rfl⟩, q⟩
  | int i t =>
    have hs := sz.sh
    simp only [PyData.showable, decide_eq_true_eq] at hs
    exact PySem.P.repr_of_int hs ⟨.str _, H, I.tok _, ⟨_, rfl⟩, q⟩
  | str x t => exact PySem.P.repr_of_str ⟨.str _, H, I.tok _, ⟨_, rfl⟩, q⟩ sl
  | list a b c e => exact repr_of_reads' (.list a b c e) sz.sh ns hg (by omega) (fun _ _ z => z) (fun _ _ _ k => ⟨.str _, H, I.kept k, ⟨_, rfl⟩, q⟩) sl
  | tuple a b c e => exact repr_of_reads' (.tuple a b c e) sz.sh ns hg (by omega) (fun _ _ z => z) (fun _ _ _ k => ⟨.str _, H, I.kept k, ⟨_, rfl⟩, q⟩) sl
  | dict a b c e f => exact repr_of_reads' (.dict a b c e f) sz.sh ns hg (by omega) (fun _ _ z => z) (fun _ _ _ k => ⟨.str _, H, I.kept k, ⟨_, rfl⟩, q⟩) sl
/-- repr of a list of k times one drawn value -/
def rRepL (K : PySem.W.Frag) : List V → Hp → VK → Prop := fun xs H Q => ∃ (l : Addr) (k : Nat) (v : V) (d : PyData), xs = [.ref l] ∧ H l = some (.lst (List.replicate k v)) ∧ sysModules < l ∧ k ≤ 100 ∧ Vd H v d ∧ Q (.str (PyData.list (List.replicate k d)).shown) H
theorem cr_repL (K : PySem.W.Frag) (hg : X.A.guards = some []) (hu : X.A.units + 64 < cLine) : CallR X (.builtin "repr") (rRepL K) := by
  intro pins s σ H xs us Q I r h
  obtain ⟨l, k, v, d, e, hl, hs, hk, hd, q⟩ := h
  subst e
  obtain ⟨u, hus, ru⟩ := vals1 r
  subst hus
  obtain rfl : u = Value.ref l := ru
  have sz := szd_lst hd.sz k
  have sl := sz.size (by omega)
  have dp := sz.dp
  obtain ⟨_, its, n, rv, _, ho⟩ := I.lstM hl
  obtain ⟨as, ra, ns⟩ := reads_rep I hd k its rv
  refine repr_of_reads' (.list ho rfl rfl ra) sz.sh (fun z y => ?_) hg (by omega) (fun _ _ z => z) (fun _ _ _ k => ⟨.str _, H, I.kept k, ⟨_, rfl⟩, q⟩) sl
  rcases List.mem_cons.mp y with y | y
  · exact absurd y (Nat.ne_of_lt hs)
  · refine ns ?_ y
    simp only [PyData.hasDict] at z
    have key : ∀ j : Nat, PyData.hasDictAll (List.replicate j d) = true → d.hasDict = true := by
      intro j
      induction j with
      | zero => intro w; simp only [List.replicate, PyData.hasDictAll] at w; cases w
      | succ j ih =>
        intro w
        simp only [List.replicate, PyData.hasDictAll, Bool.or_eq_true] at w
        rcases w with w | w
        · exact w
        · exact ih w
    exact key k z
/-- lists put together: the new one lies high -/
def rCatH : R2 := fun x y H Q => ∃ (a b : Addr) (xs ys : List V), x = .ref a ∧ y = .ref b ∧ H a = some (.lst xs) ∧ H b = some (.lst ys) ∧ xs.length + ys.length ≤ sizeLine ∧ ∀ p, H p = none → sysModules < p → Q (.ref p) (upd H p (.lst (xs ++ ys)))
theorem op_catH : OpR X (binaryOp .Add) rCatH := by
  intro pins s σ H x y v u Q I rx ry h
  obtain ⟨a, b, xs, ys, rfl, rfl, ha, hb, hz, q⟩ := h
  cases rx
  cases ry
  obtain ⟨_, i1, n1, r1, l1, e1⟩ := I.lstM ha
  obtain ⟨_, i2, n2, r2, l2, e2⟩ := I.lstM hb
  refine PySem.P.add_list e1 e2 ?_ (by rw [List.size_toArray, List.size_toArray]; omega)
  rw [show i1.toArray ++ i2.toArray = (i1 ++ i2).toArray by simp]
  exact ⟨.ref _, _, I.lnew (t' := s.toks) (r1.append r2) (by rw [List.length_append]; omega), rfl, q _ I.fresh I.big⟩
/-- one value, k times: the new list lies high -/
def rRepH : R2 := fun x y H Q => ∃ (l : Addr) (k : Int) (v : V), x = .ref l ∧ y = .int k ∧ H l = some (.lst [v]) ∧ 0 ≤ k ∧ k ≤ 1000 ∧ ∀ p, H p = none → sysModules < p → Q (.ref p) (upd H p (.lst (List.replicate k.toNat v)))
theorem op_repH : OpR X (binaryOp .Mult) rRepH := by
  intro pins s σ H x y v u Q I rx ry h
  obtain ⟨l, k, z0, rfl, rfl, hH, k0, k1, q⟩ := h
  cases rx
  obtain ⟨t, rfl⟩ := ry
  obtain ⟨_, its, n, r, len, e⟩ := I.lstM hH
  have kz : k.toNat ≤ 1000 := by omega
  have one : its.toArray.size * k.toNat ≤ 1000 := by
    rw [List.size_toArray, ← len]
    simp only [List.length_cons, List.length_nil]
    omega
  have fits : ¬ (!Builtin.List.listFitsIndex k) = true := by
    rw [fitsIndex_both (by omega) (by omega)]; exact Bool.false_ne_true
  have short : ¬ its.toArray.size * k.toNat > (2 ^ 63 - 1) / 8 := by
    have c : (1000 : Nat) ≤ (2 ^ 63 - 1) / 8 := by decide
    omega
  have notLong : ¬ Builtin.List.listTooLong (its.toArray.size * k.toNat) = true := by
    rw [notLongL (Nat.le_trans one (by rw [sizeLine_eq]; decide))]; exact Bool.false_ne_true
  have made : List.foldl (fun a b => a ++ b) #[] (List.replicate (if its.toArray.isEmpty = true then 0 else k.toNat) its.toArray) = (List.replicate k.toNat its).flatten.toArray := by
    have z := foldl_rep its k.toNat []
    rw [List.nil_append] at z
    cases its with
    | nil => cases r
    | cons a r2 =>
      rw [if_neg (by simp)]
      exact z
  refine wpAny_binaryOp_repeat_ref (T := "list") (U := "int") (by decide) ⟨_, e, rfl⟩
    (fun s2 => typeIs_int s2 k t) noFill_list_mul F.fills_int_mul
    F.slot_int_rmul repeat_list F.slot_int_index.lookup
    (call_meets F.slot_int_rmul (typeIs_int s k t) F.entry_int_rmul
      (F.args_int_rmul_2 _ _) (int___rmul___int_list k t l its.toArray n)
      ⟨e, rfl, ⟨_, e, rfl⟩, call_meets F.slot_list_mul ⟨_, e, rfl⟩
        F.entry_list_mul (F.args_list_mul_2 _ _)
        (AutoListH.list___mul___list_int_3 l its.toArray n k t fits short notLong) ⟨e, ?_⟩⟩)
  rw [made]
  have rr := r.rep k.toNat
  have fl : (List.replicate k.toNat [z0]).flatten = List.replicate k.toNat z0 := by simp
  rw [fl] at rr
  refine ⟨.ref _, _, I.lnew (t' := s.toks) rr (by rw [List.length_replicate, sizeLine_eq]; omega), rfl, ?_⟩
  exact q _ I.fresh I.big
end
end Qj
namespace Qj
open PySem PySem.Spec PyProof.Rows L2
/-! ### several clauses, each with a name -/
abbrev Cls1 := Value × Nat × (Addr → Value → Option Addr → TS)
def wClauses (K : PySem.W.Frag) (Wo : WX) (D : Ends) : List Cls1 → WX
  | [] => Wo
  | q :: r => wAs K q.1 q.2.1 q.2.2 (wClauses K Wo D r) D
/-- clauses that fit the text -/
inductive ClsOk (X : Cx) : List ExceptHandler → List Cls1 → Prop
  | nil : ClsOk X [] []
  | cons {cn n : Str} {c : Value} {i : Nat} {ts : Addr → Value → Option Addr → TS} {b0 : Stmt} {bs : List Stmt} {p1 p2 : PySem.Pos} {hs : List ExceptHandler} {l : List Cls1} (nm : Names X cn c) (at_ : X.N[i]? = some n) (lc : X.env.kindOf n = some .local)
      (su : ∀ (a : Addr) (o : Obj) (cls : Value) (d : Option Addr) (pn : List (Addr × Obj)), Zc cls d o → (∃ vs, o.data = .fields vs) → PSs (X.suite a ((a, o) :: pn)) (b0 :: bs) (ts a cls d)) (more : ClsOk X hs l) :
      ClsOk X (.ExceptHandler (some (.Name cn p1)) (some n) (b0 :: bs) p2 :: hs) ((c, i, ts) :: l)
section
variable {X : Cx} {body : List Stmt} {h0 : ExceptHandler} {hds : List ExceptHandler} {l : List Cls1} {pos : PySem.Pos} {tb : WX → TS} {Wo : WX}
theorem ps_try_clauses (st : X.stack = X.env :: X.outer) (fr : X.env.frame = some X.env.locals) (nd : X.N.Nodup) (tk : Takes X Wo)
    (hb : ∀ (W : WX) (pn : List (Addr × Obj)) (xe : Value → Shared → Prop), Takes (X.tr pn xe) W → PassesOwn (model X.prog X.w) X.A X.env xe → PSs (X.tr pn xe) body (tb W))
    (hh : ClsOk X (h0 :: hds) l) : PS X (.Try body (h0 :: hds) [] [] pos) (fun D σ H => tb (wClauses X.K Wo D l) D σ H) := by
  constructor
  intro pins s σ H D I h
  have iok := I.ok
  have frm : X.A.frames = some (X.env :: X.outer) := iok.frames.trans (congrArg some st)
  refine wpAny_Try_except ?_
  have body1 := (hb (wClauses X.K Wo D l) (X.pn ++ pins) (fun e t1 => wpAny (model X.prog X.w) X.A (noteFrame e X.env) (fun _ t2 => wpAny (model X.prog X.w) X.A (setFlight e none) (fun _ t3 =>
    wpAny (model X.prog X.w) X.A (handleBy e X.env (h0 :: hds)) (SP X pins D) X.xe t3) X.xe t2) X.xe t1) (fun u t caught => ?_) PassesOwn.looking).run [] s σ H D (I.toTry _) h
  · refine wpAny_mono body1 (fun f t z => ?_) (fun e t z => z)
    cases f with
    | next =>
      obtain ⟨τ, G, J, q⟩ := z
      exact wpAny_execs_nil ⟨τ, G, J.ofTry iok, q⟩
    | brk =>
      obtain ⟨τ, G, J, q⟩ := z
      exact ⟨τ, G, J.ofTry iok, q⟩
    | cont =>
      obtain ⟨τ, G, J, q⟩ := z
      exact ⟨τ, G, J.ofTry iok, q⟩
    | ret u =>
      obtain ⟨v, τ, G, J, r, q⟩ := z
      exact ⟨v, τ, G, J.ofTry iok, r, q⟩
  · obtain ⟨a, B, t0, pin2, τ, G, cls, d, rfl, J0, nb, up, sky0, na, os, ag, wish⟩ := caught
    have J1 : Inv X pins τ G t0 := J0.ofTry iok
    have sky1 : Sky B (X.env :: X.outer) a (Zc cls d) X.env.locals t.heap := st ▸ sky0
    show wpAny (model X.prog X.w) X.A (noteFrame (.ref a) X.env) _ _ _
    refine Sky.land Zc.steady frm fr sky1 fun g1 land1 up1 => ?_
    have J3 : Inv X pins τ G { t with heap := g1 } := J1.landed nb land1.1 (up.trans up1) os ag
    obtain ⟨o3, f3, at3, z3, d3⟩ := land1.there
    have noFrame : a ∉ frs (X.env :: X.outer) := fun hm => by
      obtain ⟨_, o9, at9, bad⟩ := land1.2.2.1.mem hm
      rw [at3] at at9
      cases at9
      exact bad _ d3
    have ne1 : a ≠ X.env.locals := fun z => noFrame (List.mem_filterMap.mpr ⟨X.env, List.mem_cons_self, by rw [fr, z]⟩)
    have ne2 : a ∉ X.fs := fun hm => by
      obtain ⟨e9, m9, q9⟩ := List.mem_filterMap.mp hm
      exact noFrame (List.mem_filterMap.mpr ⟨e9, List.mem_cons_of_mem _ m9, q9⟩)
    have S3 := J3.suite at3 d3 na ne1 ne2
    have each : ∀ {hs2 : List ExceptHandler} {l2 : List Cls1}, ClsOk X hs2 l2 → wClauses X.K Wo D l2 cls d τ G → wpAny (model X.prog X.w) X.A (handleBy (.ref a) X.env hs2) (SP X pins D) X.xe { t with heap := g1 } := by
      intro hs2 l2 ok2
      induction ok2 with
      | nil =>
        intro wi
        refine wpAny_handleBy_nil ?_
        obtain ⟨_, _, _, oe, vs, T9, oT, ts9, he, hz, hd, h1, hr⟩ := id land1
        unfold PySem.passOn
        refine wpAny_bind (wpAny_field he hd h1 ?_)
        rw [if_neg (show ¬ (Value.ref T9 == Value.none) = true by simp)]
        have last : wpAny (model X.prog X.w) X.A (setFlight (.ref a) X.env.frame) (fun _ t9 => wpAny (model X.prog X.w) X.A (throw (.ref a) : Sem Flow) (SP X pins D) X.xe t9) X.xe { t with heap := g1 } := by
          rw [fr]
          refine HandSPX.setFlight_upZ land1 fun g2 hot2 up2 => wpAny_throw (tk _ _ ?_)
          refine ⟨a, B, t0, pins, τ, G, cls, d, rfl, J1, nb, (up.trans up1).trans up2, .inr (.inr ?_), na, os, ag, wi⟩
          rw [st]
          exact hot2
        first
          | exact wpAny_bind (wpAny_pure (wpAny_bind last))
          | exact wpAny_bind last
      | @cons cn n c i ts b0 bs p1 p2 hs3 l3 nm at_ lc su more ih =>
        intro wi
        obtain ⟨b, isb, yes, no⟩ := wi
        refine wpAny_handleBy_cons (codeAny_handlers_test ?_) (by intro q; cases q)
        have ty3 : PySem.W.Looks (model X.prog X.w) g1 (typeOf (.ref a)) cls := fun A2 Q2 E2 t2 k q => wpAny_typeOf_ref (k _ _ at3) (by rw [z3.1]; exact q)
        have fits := PySem.W.exm_one (M := model X.prog X.w) J3.kIn ty3 isb
        have ask : ∀ {Q2 : Value → Shared → Prop} {E2 : Value → Shared → Prop}, Q2 c { t with heap := g1 } → wpAny (model X.prog X.w) (X.A.mark (some (.ref a))) (eval (.Name cn p1) X.env) Q2 E2 { t with heap := g1 } := by
          intro Q2 E2 q
          obtain ⟨gl, db, m1 | ⟨m1, v1, n1⟩⟩ := nm
          · exact ld_glob (X := X.suite a ((a, o3) :: (X.pn ++ pins))) S3 gl m1 q db
          · exact ld_blt (X := X.suite a ((a, o3) :: (X.pn ++ pins))) S3 gl m1 v1 q n1 db
        refine ask (fits.here ?_)
        cases b with
        | false =>
          show wpAny _ X.A (handleBy (.ref a) X.env hs3) _ _ _
          exact ih (no rfl)
        | true =>
          refine codeAny_handlers_suite_as ?_
          refine HandSPX.lands_againZ land1 fun g4 land4 up4 => ?_
          have J4 : Inv X pins τ G { t with heap := g4 } := J1.landed nb land4.1 ((up.trans up1).trans up4) os ag
          obtain ⟨o4, f4, at4, z4, d4⟩ := land4.there
          refine store_ok (X := X.suite a ((a, o4) :: (X.pn ++ pins))) (v := .ref a) (J4.suite at4 d4 na ne1 ne2) nd at_ (.inl lc) rfl (fun t5 S5 => ?_) (.inr lc)
          refine wpAny_mono ((su a o4 cls d (X.pn ++ pins) z4 ⟨_, d4⟩).run [] t5 _ G _ S5 (yes rfl a na)) (fun f t6 z => ?_) (fun _ _ z => z.elim)
          have stop : ∀ {τ6 : L2.St} {G6 : Hp} {Q6 : Shared → Prop}, Inv (X.suite a ((a, o4) :: (X.pn ++ pins))) [] τ6 G6 t6 → (∀ t7, Inv X pins (τ6.set i none) G6 t7 → Q6 t7) →
              wpAny (model X.prog X.w) X.A (do bindName X.env n .none; unbindBehindTheSuite X.env n p2) (fun _ t7 => Q6 t7) X.xe t6 := fun {τ6 G6 Q6} S6 hq => gone_ok (S6.unsuite iok) nd at_ lc hq
          cases f with
          | next =>
            obtain ⟨τ6, G6, S6, q6⟩ := z
            exact stop S6 fun t7 J7 => ⟨_, _, J7, q6⟩
          | brk =>
            obtain ⟨τ6, G6, S6, q6⟩ := z
            exact stop S6 fun t7 J7 => ⟨_, _, J7, q6⟩
          | cont =>
            obtain ⟨τ6, G6, S6, q6⟩ := z
            exact stop S6 fun t7 J7 => ⟨_, _, J7, q6⟩
          | ret u =>
            obtain ⟨v6, τ6, G6, S6, r6, q6⟩ := z
            exact stop S6 fun t7 J7 => ⟨_, _, _, J7, r6, q6⟩
    exact each hh wish
end
end Qj
namespace Qj
open PySem PySem.Spec PyProof.Rows L2
/-! ### repr of data in which a dict may stand, where no list stands beside it -/
mutual
def noLs : PyData → Bool
  | .tuple ds => noLsA ds
  | .list _ => false
  | _ => true
def noLsA : List PyData → Bool
  | [] => true
  | d :: ds => noLs d && noLsA ds
end
section
variable {X : Cx} {pins : List (Addr × Obj)} {σ : L2.St} {H : Hp} {s : Shared} {D : Addr}
mutual
theorem Dt.readsT (I : Inv X pins σ H s) : ∀ (d : PyData) {v : V} {u : Value}, Dt X.K D H v d → RelV v u → ∃ as, Reads s.heap u d as ∧ (noLs d = true → sysModules ∉ as)
  | .none, _, _, h, r => by
    cases h
    cases r
    exact ⟨_, .none, fun _ z => nomatch z⟩
  | .bool b, _, _, h, r => by
    cases h
    cases r
    exact ⟨_, .bool b, fun _ z => nomatch z⟩
  | .int i, _, _, h, r => by
    cases h
    obtain ⟨t, rfl⟩ := r
    exact ⟨_, .int i t, fun _ z => nomatch z⟩
  | .str x, _, _, h, r => by
    cases h
    obtain ⟨t, rfl⟩ := r
    exact ⟨_, .str x t, fun _ z => nomatch z⟩
  | .list ds, _, _, h, r => by
    cases h with
    | lst n hs ha =>
      cases r
      obtain ⟨its, rv, ⟨o, n2, ho, hc, _, hd⟩, _⟩ := I.list (.of hs)
      obtain ⟨as, hr, _⟩ := DtA.readsT I ds ha rv
      exact ⟨_, .list ho hc hd hr, fun z => by simp only [noLs] at z; cases z⟩
  | .tuple ds, _, _, h, r => by
    cases h with
    | tup hs ha =>
      cases r
      obtain ⟨its, rv, ⟨o, ho, hc, n2, hd⟩, _⟩ := I.tuple hs
      obtain ⟨as, hr, nn⟩ := DtA.readsT I ds ha rv
      exact ⟨_, .tuple ho hc hd hr, fun z => nn (by simpa only [noLs] using z)⟩
  | .dict kvs, _, _, h, r => by
    cases h with
    | @dic a e =>
      obtain rfl := r
      obtain ⟨_, hs, vs, kv, o, es, ep, ho, xd, hd, ks, ps, nd⟩ := dk_of I.hok e
      have na : a ≠ sysModules := fun z => by rw [z] at hs; exact absurd hs (by decide)
      cases kv
      have e0 : es.toList = [] := by
        cases hes : es.toList with
        | nil => rfl
        | cons _ _ => rw [hes] at ps; cases ps
      refine ⟨_, Reads.dict ho xd.1 hd (kvs := []) (as := []) (bs := []) (by rw [e0]; exact .nil) (by rw [e0]; exact .nil), fun _ => ?_⟩
      simp only [List.append_nil, List.mem_singleton]
      exact fun z => na z.symm
theorem DtA.readsT (I : Inv X pins σ H s) : ∀ (ds : List PyData) {vs : List V} {us : List Value}, DtA X.K D H vs ds → Vals vs us → ∃ as, ReadsAll s.heap us ds as ∧ (noLsA ds = true → sysModules ∉ as)
  | [], _, _, h, r => by
    cases h
    cases r
    exact ⟨_, .nil, fun _ z => nomatch z⟩
  | d :: ds, _, _, h, r => by
    cases h with
    | cons h1 h2 =>
      cases r with
      | cons r1 r2 =>
        obtain ⟨as, q1, n1⟩ := Dt.readsT I d h1 r1
        obtain ⟨bs, q2, n2⟩ := DtA.readsT I ds h2 r2
        refine ⟨_, .cons q1 q2, fun z y => ?_⟩
        simp only [noLsA, Bool.and_eq_true] at z
        rcases List.mem_append.mp y with y | y
        · exact n1 z.1 y
        · exact n2 z.2 y
end
def rRepT (K : PySem.W.Frag) : List V → Hp → VK → Prop := fun xs H Q => ∃ (D : Addr) (v : V) (d : PyData), xs = [v] ∧ Dt K D H v d ∧ Szd d 16000 60 ∧ (d.hasDict = true → noLs d = true) ∧ Q (.str d.shown) H
theorem cr_repT (K : PySem.W.Frag) (hK : X.K = K) (hg : X.A.guards = some []) (hu : X.A.units + 64 < cLine) : CallR X (.builtin "repr") (rRepT K) := by
  subst hK
  intro pins s σ H xs us Q I r h
  obtain ⟨D, v, d, e, hd, sz, nl, q⟩ := h
  subst e
  obtain ⟨u, hus, ru⟩ := vals1 r
  subst hus
  have sl := sz.size (by decide)
  obtain ⟨as, rd, ns⟩ := Dt.readsT I d hd ru
  have dp := sz.dp
  cases rd with
  | none => exact PySem.P.repr_of_none ⟨.str _, H, I.tok _, ⟨_, rfl⟩, q⟩
  | bool b => exact PySem.P.repr_of_bool ⟨.str _, H, I.tok _, ⟨_, rfl⟩, q⟩
  | int i t =>
    have hs := sz.sh
    simp only [PyData.showable, decide_eq_true_eq] at hs
    exact PySem.P.repr_of_int hs ⟨.str _, H, I.tok _, ⟨_, rfl⟩, q⟩
  | str x t => exact PySem.P.repr_of_str ⟨.str _, H, I.tok _, ⟨_, rfl⟩, q⟩ sl
  | list a b c e => exact repr_of_reads' (.list a b c e) sz.sh (fun z => ns (nl z)) hg (by omega) (fun _ _ z => z) (fun _ _ _ k => ⟨.str _, H, I.kept k, ⟨_, rfl⟩, q⟩) sl
  | tuple a b c e => exact repr_of_reads' (.tuple a b c e) sz.sh (fun z => ns (nl z)) hg (by omega) (fun _ _ z => z) (fun _ _ _ k => ⟨.str _, H, I.kept k, ⟨_, rfl⟩, q⟩) sl
  | dict a b c e f => exact repr_of_reads' (.dict a b c e f) sz.sh (fun z => ns (nl z)) hg (by omega) (fun _ _ z => z) (fun _ _ _ k => ⟨.str _, H, I.kept k, ⟨_, rfl⟩, q⟩) sl
/-- two lists of the same texts -/
def rNeS : R2 := fun x y H Q => ∃ (a b : Addr) (ts : List Str), x = .ref a ∧ y = .ref b ∧ H a = some (.lst (ts.map V.str)) ∧ H b = some (.lst (ts.map V.str)) ∧ Q (.bl false) H
theorem strs_rel : ∀ {ts : List Str} {us : List Value}, Vals (ts.map V.str) us → us.length = ts.length ∧ ∀ (j : Nat) (h : j < us.length), ∃ t, ts[j]?.map (fun x => Value.str x t) = some us[j]
  | [], _, r => by
    cases r
    exact ⟨rfl, fun j h => absurd h (Nat.not_lt_zero _)⟩
  | x :: ts, _, r => by
    cases r with
    | cons r1 r2 =>
      obtain ⟨t, rfl⟩ := r1
      obtain ⟨l, f⟩ := strs_rel r2
      refine ⟨congrArg Nat.succ l, fun j h => ?_⟩
      cases j with
      | zero => exact ⟨t, rfl⟩
      | succ j => exact f j (Nat.lt_of_succ_lt_succ h)
theorem op_neS (hu : X.A.units < cLine) : OpR X (compareOp .NotEq) rNeS := by
  intro pins s σ H x y v u Q I rx ry h
  obtain ⟨a, b, ts, rfl, rfl, ha, hb, q⟩ := h
  cases rx
  cases ry
  obtain ⟨us, r1, p1, _⟩ := I.list (.of ha)
  obtain ⟨ws, r2, p2, _⟩ := I.list (.of hb)
  obtain ⟨l1, f1⟩ := strs_rel r1
  obtain ⟨l2, f2⟩ := strs_rel r2
  have z := SeqAt.RcNeAt.lists (A := X.A) (s := s) (e := fun _ => true) p1.isList p2.isList (by rw [List.size_toArray, List.size_toArray, l1, l2]) hu (fun j h1 h2 => ?_) X.prog X.w X.xe (EP X pins σ Q) ?_
  · exact z
  · have h1' : j < us.length := by simpa using h1
    have h2' : j < ws.length := by simpa using h2
    obtain ⟨t, e1⟩ := f1 j h1'
    obtain ⟨t2, e2⟩ := f2 j h2'
    have hj : j < ts.length := by omega
    rw [List.getElem?_eq_getElem hj] at e1 e2
    have e1' := Option.some.inj e1
    have e2' := Option.some.inj e2
    have g1 : us.toArray[j] = us[j] := by simp
    have g2 : ws.toArray[j] = ws[j] := by simp
    rw [g1, g2, ← e1', ← e2']
    have k := SeqAt.EqAt.str_str (A := X.A.in1) (s := s) ts[j] t ts[j] t2
    rw [beq_self_eq_true] at k
    exact k
  · rw [show ((List.range us.toArray.size).all fun _ => true) = true from List.all_eq_true.mpr fun _ _ => rfl]
    exact ⟨.bl false, H, I, rfl, q⟩
end
/-! ### the names that the laws draw for scales -/
def names78 : List Str := (List.range 26).flatMap fun k => [(⟨#[65 + k]⟩ : Str), ⟨#[65 + k, 73]⟩, ⟨#[65 + k, 70, 88]⟩]
theorem mem78 {c : Nat} {z : Str} (h1 : 65 ≤ c) (h2 : c ≤ 90) (hz : z ∈ (["", "I", "FX"] : List Str)) : (⟨#[c]⟩ : Str) ++ z ∈ names78 := by
  obtain ⟨k, rfl⟩ : ∃ k, c = 65 + k := ⟨c - 65, by omega⟩
  refine List.mem_flatMap.mpr ⟨k, List.mem_range.mpr (by omega), ?_⟩
  simp only [List.mem_cons, List.not_mem_nil, or_false] at hz ⊢
  rcases hz with rfl | rfl | rfl
  · exact .inl rfl
  · exact .inr (.inl rfl)
  · exact .inr (.inr rfl)
def no78 (x : Str) : Bool := !names78.contains x
def sml (x : Str) : Bool := decide (x.cps.size ≤ 8) && x.cps.all fun c => decide (c < 200)
theorem all78 {f : Str → Bool} (h : names78.all f = true) {x : Str} (m : x ∈ names78) : f x = true := List.all_eq_true.mp h x m
theorem qq78 : names78.all (fun x => no78 (x ++ "QQ") && sml (x ++ "QQ") && (no78 (x ++ "Q") && sml (x ++ "Q")) && (no78 ("QQ" ++ x) && sml ("QQ" ++ x)) && sml x) = true := by decide +kernel
theorem lo78 : names78.all (fun x => no78 (Txt.lower x) && sml (Txt.lower x)) = true := by decide +kernel
theorem no78_ne {x y : Str} (h : no78 x = true) (m : y ∈ names78) : y ≠ x := by
  rintro rfl
  unfold no78 at h
  rw [List.contains_iff_mem.mpr m] at h
  cases h
end Qj
namespace Qj
open PySem PySem.Spec PyProof.Rows L2
/-! ### a scale looked up by any value; places and figures that may be refused -/
def lookS : List PyData → PyData → Option (Int × PyData)
  | [], _ => none
  | .tuple [.str nm, .int t, f] :: r, d => if PyData.eqv (.str nm) d = true then some (t, f) else lookS r d
  | _ :: r, d => lookS r d
theorem lookS_cons {nm : Str} {t : Int} {f : PyData} {r : List PyData} {d : PyData} : lookS (.tuple [.str nm, .int t, f] :: r) d = if PyData.eqv (.str nm) d = true then some (t, f) else lookS r d := rfl
theorem drop_next {α : Type} {l : List α} {i : Nat} {x : α} (h : l[i]? = some x) : l.drop i = x :: l.drop (i + 1) := by
  obtain ⟨hi, e⟩ := List.getElem?_eq_some_iff.mp h
  rw [List.drop_eq_getElem_cons hi, e]
theorem eqv_str {x y : Str} : PyData.eqv (.str x) (.str y) = (x == y) := by
  simp only [PyData.eqv]
/-- a drawn scale's name is found, another one isn't -/
theorem lookS_at {ds : List PyData} (sc : ∀ d ∈ ds, Sc d) (nd : (ds.map nmD).Nodup) {i : Nat} {nm : Str} {t : Int} {f : PyData} (h : ds[i]? = some (.tuple [.str nm, .int t, f])) : lookS ds (.str nm) = some (t, f) := by
  induction ds generalizing i with
  | nil => cases h
  | cons d r ih =>
    obtain ⟨n2, t2, f2, e2, _⟩ := sc d (List.mem_cons_self ..)
    subst e2
    rw [List.map_cons, List.nodup_cons] at nd
    rw [lookS_cons, eqv_str]
    cases i with
    | zero =>
      cases h
      rw [if_pos (by simp)]
    | succ i =>
      have h2 : r[i]? = some (.tuple [.str nm, .int t, f]) := h
      have m : nm ∈ r.map nmD := List.mem_map.mpr ⟨_, List.mem_iff_getElem?.mpr ⟨i, h2⟩, rfl⟩
      have ne : n2 ≠ nm := fun z => nd.1 (by
        subst z
        exact m)
      rw [if_neg (by simpa using ne)]
      exact ih (fun x hx => sc x (List.mem_cons_of_mem _ hx)) nd.2 h2
theorem lookS_no {ds : List PyData} (sc : ∀ d ∈ ds, Sc d) {d : PyData} (h : ∀ x ∈ ds, PyData.eqv (.str (nmD x)) d = false) : lookS ds d = none := by
  induction ds with
  | nil => rfl
  | cons a r ih =>
    obtain ⟨n2, t2, f2, e2, _⟩ := sc a (List.mem_cons_self ..)
    subst e2
    have z := h _ (List.mem_cons_self ..)
    rw [lookS_cons, if_neg (by
      show ¬ PyData.eqv (.str (nmD (.tuple [.str n2, .int t2, frD f2]))) d = true
      rw [z]
      decide)]
    exact ih (fun x hx => sc x (List.mem_cons_of_mem _ hx)) fun x hx => h x (List.mem_cons_of_mem _ hx)
/-- a value that may be compared -/
structure Plain (d : PyData) : Prop where
  nd : d.hasDict = false
  sh : SeqAt.shaped d = true
/-- a new error with one field on v, raised -/
def ErrG (K : PySem.W.Frag) (H : Hp) (C : Addr) (f : Str) (v : V) (E : XK) : Prop := ∀ d H', Evl.Ex H H' → H' d = some (.xd [(f, v)]) → E (.ref C) (some d) H'
def spScaleE (K : PySem.W.Frag) (C NS : Addr) : Sp := fun vs H Q E => ∃ (D r : Addr) (bd sd : List PyData) (v : V) (d : PyData), vs = [.ref r, v] ∧ RuleAt K C D H r bd sd ∧ (∀ x ∈ bd ++ sd, Sc x) ∧ (bd ++ sd).length ≤ 12 ∧ Dt K D H v d ∧ Plain d ∧
  (∀ t f, lookS (bd ++ sd) d = some (t, f) → ∀ q v' H', Evl.Ex H H' → H' q = some (.tup [.int t, v']) → Dt K D H' v' f → Q (.ref q) H') ∧ (lookS (bd ++ sd) d = none → ErrG K H NS "name" v E)
def strOkD (t : Int) : PyData → Bool
  | .int s => decide (0 ≤ s) && decide (s < ab t)
  | _ => false
/-- a right mantissa is not large; a right position neither -/
def ManOk (d : PyData) : Prop := dMant d = true → ∃ m, d = frD m ∧ Man m
def PosOk (d : PyData) : Prop := dPos d = true → ∃ x, d = frD x ∧ Pos x
def spPlaceE (K : PySem.W.Frag) (C NS NT NM : Addr) : Sp := fun vs H Q E => ∃ (D r : Addr) (bd sd : List PyData) (nv sv mv : V) (dn ds dm : PyData), vs = [.ref r, nv, sv, mv] ∧ RuleAt K C D H r bd sd ∧ (∀ x ∈ bd ++ sd, Sc x) ∧ (bd ++ sd).length ≤ 12 ∧
  Dt K D H nv dn ∧ Plain dn ∧ Dt K D H sv ds ∧ shD ds = true ∧ Dt K D H mv dm ∧ shD dm = true ∧ ManOk dm ∧
  (lookS (bd ++ sd) dn = none → ErrG K H NS "name" nv E) ∧
  ∀ t fo, lookS (bd ++ sd) dn = some (t, frD fo) → Trn t → Man fo → (strOkD t ds = false → ErrG K H NT "stretch" sv E) ∧ (strOkD t ds = true → dMant dm = false → ErrG K H NM "value" mv E) ∧
    ∀ s m, ds = .int s → 0 ≤ s → s < ab t → dm = frD m → Man m → ∀ q H', Evl.Ex H H' → H' q = some (frV (plc t fo s m)) → Q (.ref q) H'
def spFigureE (K : PySem.W.Frag) (C NS NP : Addr) : Sp := fun vs H Q E => ∃ (D r : Addr) (bd sd : List PyData) (nv pv : V) (dn dp : PyData), vs = [.ref r, nv, pv] ∧ RuleAt K C D H r bd sd ∧ (∀ x ∈ bd ++ sd, Sc x) ∧ (bd ++ sd).length ≤ 12 ∧
  Dt K D H nv dn ∧ Plain dn ∧ Dt K D H pv dp ∧ shD dp = true ∧ PosOk dp ∧
  (lookS (bd ++ sd) dn = none → ErrG K H NS "name" nv E) ∧
  ∀ t fo, lookS (bd ++ sd) dn = some (t, frD fo) → Trn t → Man fo → (dPos dp = false → ErrG K H NP "value" pv E) ∧
    ∀ x, dp = frD x → Pos x → ∀ q z H', Evl.Ex H H' → H' q = some (.tup [.int (flr (lenAt t fo x)), .ref z]) → H' z = some (frV (pt (lenAt t fo x))) → Q (.ref q) H'
theorem strOk_cap {x : Str} (h : Cap x) : SeqAt.shaped (.str x) = true := by
  have a : PyData.strOk x = true := by
    unfold PyData.strOk
    rw [← Array.all_toList, List.all_eq_true]
    intro c hc
    have := (h.all c hc).2
    exact decide_eq_true (by omega)
  show (PyData.canLay0 (.str x) && decide ((PyData.str x).depth ≤ 64)) = true
  simp only [PyData.canLay0, PyData.depth, a]
  rfl
/-- what _law_placed shows -/
def placedD (ds : List PyData) (dn dst dm : PyData) : PyData := match lookS ds dn with
  | none => .tuple [.str "scale", dn]
  | some (t, f) => if strOkD t dst = false then .tuple [.str "stretch", dst] else if dMant dm = false then .tuple [.str "mantissa", dm] else match f, dst, dm with
    | .tuple [.int a, .int b], .int s, .tuple [.int c, .int e] => .tuple [.str "told", frD (plc t (a, b) s (c, e))]
    | _, _, _ => .none
def figuredD (ds : List PyData) (dn dp : PyData) : PyData := match lookS ds dn with
  | none => .tuple [.str "scale", dn]
  | some (t, f) => if dPos dp = false then .tuple [.str "position", dp] else match f, dp with
    | .tuple [.int a, .int b], .tuple [.int c, .int e] => .tuple [.str "told", .tuple [.int (flr (lenAt t (a, b) (c, e))), frD (pt (lenAt t (a, b) (c, e)))]]
    | _, _ => .none
/-- what is shown is short -/
structure Brief (d : PyData) : Prop where
  s : Szd d 1000 10
  l : d.hasDict = true → noLs d = true
def spPlacedL (K : PySem.W.Frag) (C : Addr) : Sp := fun vs H Q _ => ∃ (D r : Addr) (bd sd : List PyData) (nv sv mv : V) (dn ds dm : PyData), vs = [.ref r, nv, sv, mv] ∧ RuleAt K C D H r bd sd ∧ (∀ x ∈ bd ++ sd, Sc x) ∧ (bd ++ sd).length ≤ 12 ∧
  Dt K D H nv dn ∧ Plain dn ∧ Dt K D H sv ds ∧ shD ds = true ∧ Dt K D H mv dm ∧ shD dm = true ∧ ManOk dm ∧ Brief dn ∧ Brief ds ∧ Brief dm ∧ ∀ H', Evl.Ex H H' → Q (.str (placedD (bd ++ sd) dn ds dm).shown) H'
def spFiguredL (K : PySem.W.Frag) (C : Addr) : Sp := fun vs H Q _ => ∃ (D r : Addr) (bd sd : List PyData) (nv pv : V) (dn dp : PyData), vs = [.ref r, nv, pv] ∧ RuleAt K C D H r bd sd ∧ (∀ x ∈ bd ++ sd, Sc x) ∧ (bd ++ sd).length ≤ 12 ∧
  Dt K D H nv dn ∧ Plain dn ∧ Dt K D H pv dp ∧ shD dp = true ∧ PosOk dp ∧ Brief dn ∧ Brief dp ∧ ∀ H', Evl.Ex H H' → Q (.str (figuredD (bd ++ sd) dn dp).shown) H'
theorem szd_tup2 {d e : PyData} {n m n2 m2 : Nat} (h : Szd d n m) (g : Szd e n2 m2) : Szd (.tuple [d, e]) (n + n2 + 2) (max m m2 + 1) := by
  refine ⟨?_, ?_, ?_, ?_⟩
  · simp only [PyData.showable, PyData.showableAll, h.sh, g.sh, Bool.and_self]
  · simp only [PyData.leavesShort, PyData.leavesShortAll, h.lv, g.lv, Bool.and_self]
  · simp only [PyData.weight, PyData.weightAll]
    have := h.wt
    have := g.wt
    omega
  · simp only [PyData.depth, PyData.depthAll]
    have := h.dp
    have := g.dp
    omega
theorem brief_two {x : String} {d : PyData} (hx : x.length ≤ 20) (b : Brief d) : Szd (.tuple [.str x, d]) 16000 60 ∧ ((PyData.tuple [.str x, d]).hasDict = true → noLs (.tuple [.str x, d]) = true) := by
  refine ⟨(szd_tup2 (szd_str hx) b.s).mono (by decide) (by decide), fun z => ?_⟩
  have e : (PyData.tuple [.str x, d]).hasDict = d.hasDict := by simp only [PyData.hasDict, PyData.hasDictAll, Bool.false_or, Bool.or_false]
  rw [e] at z
  have := b.l z
  simp only [noLs, noLsA, this, Bool.and_self]
end Qj
namespace Qj
open PySem PySem.Spec PyProof.Rows L2
theorem lookS_sc {ds : List PyData} (sc : ∀ d ∈ ds, Sc d) {d : PyData} {t : Int} {f : PyData} (h : lookS ds d = some (t, f)) : ∃ fo, f = frD fo ∧ Trn t ∧ Man fo := by
  induction ds with
  | nil => cases h
  | cons a r ih =>
    obtain ⟨n2, t2, f2, e2, _, tr, mn⟩ := sc a (List.mem_cons_self ..)
    subst e2
    rw [lookS_cons] at h
    split at h
    · cases h
      exact ⟨_, rfl, tr, mn.m⟩
    · exact ih (fun x hx => sc x (List.mem_cons_of_mem _ hx)) h
end Qj
namespace Qj
open PySem PySem.Spec PyProof.Rows L2
/-- a row of scales whose names begin with signs st apart, of the shapes that are drawn -/
def ApartN (st : Int) (fs : Int) (ds : List PyData) : Prop := ∀ (j : Nat) (d : PyData), ds[j]? = some d → (Sc d ∧ nmD d ∈ names78) ∧ (nmD d).cps[0]? = some (65 + ((fs + st * (j : Int)) % 26).toNat)
theorem ApartN.to {st fs : Int} {ds : List PyData} (h : ApartN st fs ds) : Apart st fs ds := fun j d e => ⟨(h j d e).1.1, (h j d e).2⟩
theorem ApartN.nm {st fs : Int} {ds : List PyData} (h : ApartN st fs ds) : ∀ d ∈ ds, nmD d ∈ names78 := fun d hd => by
  obtain ⟨j, hj⟩ := List.mem_iff_getElem?.mp hd
  exact (h j d hj).1.2
structure RowsN (bd sd : List PyData) : Prop where
  o : Rows bd sd
  n : ∀ d ∈ bd ++ sd, nmD d ∈ names78
theorem rows_cutN {fs : Int} {ds : List PyData} (h : ApartN 5 fs ds) (c : Nat) (c0 : 0 < c) (c1 : c < ds.length) (few : ds.length ≤ 4) : RowsN (ds.take c) (ds.drop c) := ⟨rows_cut h.to c c0 c1 few, by
  rw [List.take_append_drop]
  exact h.nm⟩
def spScalesN (K : PySem.W.Frag) : Sp := fun vs H Q _ => ∃ D : Addr, vs = [.ref D] ∧ DeckAt H D ∧ ∀ (p pb ps : Addr) (bd sd : List PyData) (H' : Hp), H' p = some (.tup [.ref pb, .ref ps]) → Dt K D H' (.ref pb) (.tuple bd) → Dt K D H' (.ref ps) (.tuple sd) → RowsN bd sd → Bu D H H' → DeckAt H' D → Q (.ref p) H'
end Qj
namespace Qj
open PySem PySem.Spec PyProof.Rows L2
theorem no_exm {K : PySem.W.Frag} {C Sl D : Addr} {nm nm2 : Str} {bm2 : List Value} {n1 n2 : String} (T : ExC K C nm (.ref Sl :: veL) n1) (S : ExC K D nm2 bm2 n2) (h1 : C ≠ D) (h2 : Sl ≠ D) (b : Bas bm2 n2) : PySem.W.exmOne K (.ref C) (.ref D) = some false := by
  rw [T.exm S b]
  have a : (Value.ref D == Value.ref C) = false := by simpa using h1.symm
  have c : (Value.ref D == Value.ref Sl) = false := by simpa using h2.symm
  have e : veL.contains (Value.ref D) = false := by
    unfold veL
    simp
  rw [List.contains_cons, List.contains_cons, a, c, e]
  rfl
theorem brief_told {x : Int × Int} {w : String} (h : Sm 900 x) (hw : w.length ≤ 20 := by decide) : Szd (.tuple [.str w, frD x]) 16000 60 ∧ ((PyData.tuple [.str w, frD x]).hasDict = true → noLs (.tuple [.str w, frD x]) = true) :=
  ⟨(szd_tup2 (szd_str hw) (szd_okd (okd_frS h))).mono (by decide) (by decide), fun z => by
    simp only [PyData.hasDict, PyData.hasDictAll, frD, Bool.or_false] at z
    cases z⟩
def spPick (K : PySem.W.Frag) : Sp := fun vs H Q _ => ∃ (D p : Addr) (xs : List V) (ds : List PyData), vs = [.ref D, .ref p] ∧ DeckAt H D ∧ SqT K H p xs ∧ DtA K D H xs ds ∧ 0 < xs.length ∧ xs.length ≤ 1000 ∧
  ∀ (v : V) (d : PyData) (H' : Hp), Dt K D H' v d → d ∈ ds → Bu D H H' → DeckAt H' D → Q v H'
end Qj
namespace Qj
open PySem PySem.Spec PyProof.Rows L2
theorem brief_pair {i : Int} {x : Int × Int} {w : String} (hi : i.natAbs < 2 ^ 900) (h : Sm 900 x) (hw : w.length ≤ 20 := by decide) : Szd (.tuple [.str w, .tuple [.int i, frD x]]) 16000 60 ∧ ((PyData.tuple [.str w, .tuple [.int i, frD x]]).hasDict = true → noLs (.tuple [.str w, .tuple [.int i, frD x]]) = true) :=
  ⟨(szd_tup2 (szd_str hw) (szd_okd (okd_pair hi h))).mono (by decide) (by decide), fun z => by
    simp only [PyData.hasDict, PyData.hasDictAll, frD, Bool.or_false] at z
    cases z⟩
end Qj
namespace Qj
open PySem PySem.Spec PyProof.Rows L2
/-! ### workings as the laws draw them -/
inductive Stp where
  | set (w sc : Str) (st : Int) (f : PyData)
  | rd (sc nm : Str)
  | tr (a b : List Stp)
mutual
def Stp.d : Stp → PyData
  | .set w sc st f => .tuple [.str w, .str sc, .int st, f]
  | .rd sc nm => .tuple [.str "read", .str sc, .str nm]
  | .tr a b => .tuple [.str "try", .tuple (Stp.ds a), .tuple (Stp.ds b)]
def Stp.ds : List Stp → List PyData
  | [] => []
  | s :: r => s.d :: Stp.ds r
end
theorem ds_app : ∀ a b : List Stp, Stp.ds (a ++ b) = Stp.ds a ++ Stp.ds b
  | [], b => rfl
  | s :: a, b => by
    show s.d :: Stp.ds (a ++ b) = _
    rw [ds_app a b]
    rfl
theorem ds_len : ∀ a : List Stp, (Stp.ds a).length = a.length
  | [] => rfl
  | s :: a => congrArg Nat.succ (ds_len a)
theorem ds_take : ∀ (a : List Stp) (k : Nat), Stp.ds (a.take k) = (Stp.ds a).take k
  | _, 0 => rfl
  | [], k + 1 => rfl
  | s :: a, k + 1 => congrArg (s.d :: ·) (ds_take a k)
theorem ds_drop : ∀ (a : List Stp) (k : Nat), Stp.ds (a.drop k) = (Stp.ds a).drop k
  | _, 0 => rfl
  | [], k + 1 => rfl
  | s :: a, k + 1 => ds_drop a k
/-- a figure of a step -/
inductive Fig (ns : List Str) : Int → PyData → Prop
  | left : Fig ns 0 (.str "left")
  | right : Fig ns 0 (.str "right")
  | mark {st : Int} {m : Int × Int} (mm : Mn m) : Fig ns st (frD m)
  | nm {st : Int} {x : Str} (h : x ∈ ns) : Fig ns st (.str x)
/-- a line or a slide step over drawn scales -/
structure SetOk (bd sd : List PyData) (ns : List Str) (w sc : Str) (st : Int) (f : PyData) : Prop where
  ex : ∃ (t : Int) (fo : Int × Int), (w = "slide" ∧ (.tuple [.str sc, .int t, frD fo]) ∈ sd ∨ w = "line" ∧ (.tuple [.str sc, .int t, frD fo]) ∈ bd ++ sd) ∧ st < ab t ∧ ab t ≤ 3
  cp : Cap sc
  s0 : 0 ≤ st
  fg : Fig ns st f
inductive PlainS (bd sd : List PyData) (ns : List Str) : Stp → Prop
  | mk {w sc : Str} {st : Int} {f : PyData} (h : SetOk bd sd ns w sc st f) : PlainS bd sd ns (.set w sc st f)
def PlainL (bd sd : List PyData) (ns : List Str) (p : List Stp) : Prop := ∀ s ∈ p, PlainS bd sd ns s
/-- the name of a scale of the rows -/
structure RdOk (bd sd : List PyData) (sc : Str) : Prop where
  ex : ∃ (t : Int) (fo : Int × Int), (.tuple [.str sc, .int t, frD fo]) ∈ bd ++ sd
  cp : Cap sc
/-- what is found ahead of the tries -/
inductive Fnd (bd sd : List PyData) (ns : List Str) (n0 : Str) : Int → List Stp → List Str → Prop
  | base {k : Int} {p : List Stp} (h : PlainL bd sd ns p) (l0 : 1 ≤ p.length) (l1 : p.length ≤ 2) (nk : k ≠ 1) : Fnd bd sd ns n0 k p ns
  | one {p q : List Stp} {sc : Str} (h : PlainL bd sd ns p) (l0 : 1 ≤ p.length) (l1 : p.length ≤ 2) (r : RdOk bd sd sc) (g : PlainL bd sd (ns ++ [n0]) q) (m0 : 1 ≤ q.length) (m1 : q.length ≤ 2) : Fnd bd sd ns n0 1 (p ++ [.rd sc n0] ++ q) (ns ++ [n0])
  | note {k : Int} {s : Stp} {sc : Str} (h : PlainS bd sd ns s) (r : RdOk bd sd sc) (hk : k = 2 ∨ k = 4) : Fnd bd sd ns n0 k [s, .rd sc n0] (ns ++ [n0])
/-- the workings that are drawn -/
inductive Wk (bd sd : List PyData) (ns : List Str) (n0 n1 : Str) : List Stp → Prop
  | flat {k : Int} {p : List Stp} {fs : List Str} {sc : Str} (h : Fnd bd sd ns n0 k p fs) (hk : k = 0 ∨ k = 1) (r : RdOk bd sd sc) : Wk bd sd ns n0 n1 (p ++ [.rd sc n1])
  | deep1 {p : List Stp} {fs : List Str} {sc : Str} {a b c : Stp} {q : List Stp} (h : Fnd bd sd ns n0 4 p fs) (ha : PlainS bd sd fs a) (hb : PlainS bd sd fs b) (hc : PlainS bd sd fs c) (hq : PlainL bd sd fs q) (lq : q.length ≤ 1) (r : RdOk bd sd sc) :
      Wk bd sd ns n0 n1 (p.take 2 ++ [.tr [a, .tr [b] q, c] q, .rd sc n1])
  | deep2 {p : List Stp} {fs : List Str} {sc : Str} {a b c : Stp} {q : List Stp} (h : Fnd bd sd ns n0 4 p fs) (ha : PlainS bd sd fs a) (hb : PlainS bd sd fs b) (hc : PlainS bd sd fs c) (hq : PlainL bd sd fs q) (lq : q.length ≤ 1) (r : RdOk bd sd sc) :
      Wk bd sd ns n0 n1 (p.take 2 ++ [.tr [a] [a, .tr [b] q, c], .rd sc n1])
  | try2 {p : List Stp} {fs : List Str} {sc : Str} {f g q : List Stp} (h : Fnd bd sd ns n0 2 p fs) (hf : PlainL bd sd fs f) (f0 : 1 ≤ f.length) (f1 : f.length ≤ 2) (hg : PlainL bd sd fs g) (lg : g.length ≤ 1) (hq : PlainL bd sd fs q) (lq : q.length ≤ 1) (r : RdOk bd sd sc) :
      Wk bd sd ns n0 n1 (p ++ [.tr f g] ++ q ++ [.rd sc n1])
  | try3 {s : Stp} {sc s1 s2 : Str} {f1 f2 e g q : List Stp} (h : PlainS bd sd ns s) (h1 : PlainL bd sd ns (f1 ++ f2)) (l0 : 1 ≤ (f1 ++ f2).length) (l1 : (f1 ++ f2).length ≤ 2) (r1 : RdOk bd sd s1) (he : PlainL bd sd (ns ++ [n0]) e) (le : e.length ≤ 1) (hg : PlainL bd sd ns g) (lg : g.length ≤ 1) (r2 : RdOk bd sd s2)
      (hq : PlainL bd sd (ns ++ [n0]) q) (lq : q.length ≤ 1) (r : RdOk bd sd sc) : Wk bd sd ns n0 n1 ([s] ++ [.tr (f1 ++ [.rd s1 n0] ++ f2 ++ e) (g ++ [.rd s2 n0])] ++ q ++ [.rd sc n1])
/-! ### what stands on tuples alone -/
def KT (K : PySem.W.Frag) (H H' : Hp) : Prop := ∀ a xs, SqT K H a xs → SqT K H' a xs
section
variable {K : PySem.W.Frag} {D : Addr} {H H' H2 : Hp}
theorem KT.ex (e : Evl.Ex H H') : KT K H H' := fun _ _ h => sqT_ex e h
theorem KT.bu (k : DeckAt H D) (b : Bu D H H') : KT K H H' := fun _ _ h => sqT_bu k b h
theorem KT.lst {F : Addr} {ys : List V} {o : HO} (hF : H F = some (.lst ys)) : KT K H (upd H F o) := fun _ _ h => sqT_lst hF h
theorem KT.trans (a : KT K H H') (b : KT K H' H2) : KT K H H2 := fun x xs h => b x xs (a x xs h)
theorem KT.refl : KT K H H := fun _ _ h => h
theorem Dt.kt {v : V} {d : PyData} (h : Dt K D H v d) (k : KT K H H') (n : noL d = true) : Dt K D H' v d := Dt.only k d n h
end
theorem noLA_iff : ∀ {ds : List PyData}, noLA ds = true ↔ ∀ d ∈ ds, noL d = true
  | [] => ⟨fun _ d h => (nomatch h), fun _ => rfl⟩
  | d :: ds => by
    show (noL d && noLA ds) = true ↔ _
    rw [Bool.and_eq_true, noLA_iff]
    constructor
    · rintro ⟨a, b⟩ x hx
      rcases List.mem_cons.mp hx with rfl | h
      · exact a
      · exact b x h
    · exact fun h => ⟨h d (List.mem_cons_self ..), fun x hx => h x (List.mem_cons_of_mem _ hx)⟩
theorem fig_noL {ns : List Str} {st : Int} {f : PyData} (h : Fig ns st f) : noL f = true := by
  cases h <;> rfl
theorem plain_noL {bd sd : List PyData} {ns : List Str} {s : Stp} (h : PlainS bd sd ns s) : noL s.d = true := by
  cases h with
  | mk h =>
    have e := fig_noL h.fg
    show (true && (true && (true && (noL _ && true)))) = true
    rw [e]
    rfl
theorem plains_noL {bd sd : List PyData} {ns : List Str} : ∀ {p : List Stp}, PlainL bd sd ns p → noLA (Stp.ds p) = true
  | [], _ => rfl
  | s :: p, h => by
    show (noL s.d && noLA (Stp.ds p)) = true
    rw [plain_noL (h s (List.mem_cons_self ..)), plains_noL (fun x hx => h x (List.mem_cons_of_mem _ hx))]
    rfl
theorem PlainL.app {bd sd : List PyData} {ns : List Str} {p q : List Stp} (h : PlainL bd sd ns p) (g : PlainL bd sd ns q) : PlainL bd sd ns (p ++ q) := fun s hs => (List.mem_append.mp hs).elim (h s) (g s)
theorem noLA_app {a b : List PyData} : noLA (a ++ b) = (noLA a && noLA b) := by
  induction a with
  | nil => rfl
  | cons d r ih =>
    show (noL d && noLA (r ++ b)) = (noL d && noLA r && noLA b)
    rw [ih, Bool.and_assoc]
/-! ### promises of what draws them -/
/-- the scales at a pair -/
structure ScAt (K : PySem.W.Frag) (D : Addr) (H : Hp) (v : V) (bd sd : List PyData) : Prop where
  d : Dt K D H v (.tuple [.tuple bd, .tuple sd])
  r : Rows bd sd
theorem ScAt.noL {K : PySem.W.Frag} {D : Addr} {H : Hp} {v : V} {bd sd : List PyData} (h : ScAt K D H v bd sd) : Qj.noL (.tuple [.tuple bd, .tuple sd]) = true := by
  have z := (all_sc h.r.sc).2
  rw [noLA_app, Bool.and_eq_true] at z
  show (noLA bd && (noLA sd && true)) = true
  rw [z.1, z.2]
  rfl
theorem ScAt.kt {K : PySem.W.Frag} {D : Addr} {H H' : Hp} {v : V} {bd sd : List PyData} (h : ScAt K D H v bd sd) (k : KT K H H') : ScAt K D H' v bd sd := ⟨h.d.kt k h.noL, h.r⟩
def spSetting (K : PySem.W.Frag) : Sp := fun vs H Q _ => ∃ (D F : Addr) (v : V) (rows bd sd : List PyData) (w : Str) (ns : List Str), vs = [.ref D, v, .str w, .ref F] ∧ DeckAt H D ∧ Dt K D H v (.tuple rows) ∧ rows ≠ [] ∧ rows.length ≤ 12 ∧ (∀ d ∈ rows, Sc d) ∧
  (w = "slide" ∧ (∀ d ∈ rows, d ∈ sd) ∨ w = "line" ∧ (∀ d ∈ rows, d ∈ bd ++ sd)) ∧ H F = some (.lst (ns.map V.str)) ∧ F ≠ D ∧ ns ≠ [] ∧ ns.length ≤ 100 ∧
  ∀ (u : V) (sc : Str) (st : Int) (f : PyData) (H' : Hp), SetOk bd sd ns w sc st f → Dt K D H' u (Stp.set w sc st f).d → Bu D H H' → DeckAt H' D → Q u H'
def spPlainW (K : PySem.W.Frag) : Sp := fun vs H Q _ => ∃ (D F : Addr) (v : V) (bd sd : List PyData) (ns : List Str) (n : Nat), vs = [.ref D, v, .ref F, .int (n : Int)] ∧ DeckAt H D ∧ ScAt K D H v bd sd ∧ H F = some (.lst (ns.map V.str)) ∧ F ≠ D ∧ ns ≠ [] ∧ ns.length ≤ 100 ∧ n ≤ 3 ∧
  ∀ (u : V) (p : List Stp) (H' : Hp), p.length = n → PlainL bd sd ns p → Dt K D H' u (.tuple (Stp.ds p)) → Bu D H H' → DeckAt H' D → Q u H'
def spReadW (K : PySem.W.Frag) : Sp := fun vs H Q _ => ∃ (D : Addr) (v : V) (bd sd : List PyData) (nm : Str), vs = [.ref D, v, .str nm] ∧ DeckAt H D ∧ ScAt K D H v bd sd ∧
  ∀ (u : V) (sc : Str) (H' : Hp), RdOk bd sd sc → Dt K D H' u (Stp.rd sc nm).d → Bu D H H' → DeckAt H' D → Q u H'
/-- a name: one to three small letters -/
structure Nm (x : Str) : Prop where
  lo : 1 ≤ x.cps.size
  hi : x.cps.size ≤ 3
  all : ∀ c ∈ x.cps.toList, 97 ≤ c ∧ c ≤ 122
def spNames : Sp := fun vs H Q _ => ∃ (D : Addr), vs = [.ref D] ∧ DeckAt H D ∧ ∀ (F : Addr) (ns : List Str) (H' : Hp), H F = none → H' F = some (.lst (ns.map V.str)) → F ≠ D → ns.length = 5 → (∀ x ∈ ns, Nm x) → Bu D H H' → DeckAt H' D → Q (.ref F) H'
def spWorking (K : PySem.W.Frag) : Sp := fun vs H Q _ => ∃ (D A B : Addr) (v : V) (bd sd : List PyData) (ns : List Str) (n0 n1 : Str), vs = [.ref D, v, .ref A, .ref B] ∧ DeckAt H D ∧ ScAt K D H v bd sd ∧ H A = some (.lst (ns.map V.str)) ∧ A ≠ D ∧ H B = some (.lst [.str n0, .str n1]) ∧ B ≠ D ∧ ns ≠ [] ∧ ns.length ≤ 10 ∧
  ∀ (u : V) (ss : List Stp) (H' : Hp), Wk bd sd ns n0 n1 ss → Dt K D H' u (.tuple (Stp.ds ss)) → Bu D H H' → DeckAt H' D → Q u H'
end Qj
namespace Qj
open PySem PySem.Spec PyProof.Rows L2
def lowZ : Str := "abcdefghijklmnopqrstuvwxyz"
theorem low_sign {fs : Int} : ∃ c, atI lowZ.cps.toList (fs % 26) = some c ∧ 97 ≤ c ∧ c ≤ 122 := by
  have n1 := Int.emod_nonneg fs (b := 26) (by decide)
  have n2 := Int.emod_lt_of_pos fs (b := 26) (by decide)
  obtain ⟨k, hk⟩ := Int.eq_ofNat_of_zero_le n1
  rw [hk]
  have key : ∀ k, k < 26 → lowZ.cps.toList[k]? = some (97 + k) := by decide +kernel
  exact ⟨_, atI_nat (key k (by omega)), by omega, by omega⟩
end Qj
namespace Qj
open PySem PySem.Spec PyProof.Rows L2
/-! ### a statement that may return -/
def trR (Pre Post : L2.St → Hp → Prop) (R : VK) : TS := fun D σ H => Pre σ H ∧ (∀ σ' H', Post σ' H' → D.nx σ' H') ∧ ∀ v H', R v H' → D.rt v H'
theorem ps_trR {X : Cx} {st : Stmt} {t : TS} {Pre Post : L2.St → Hp → Prop} {R : VK} (h : PS X st t) (ht : ∀ (D : Ends) σ H, Pre σ H → (∀ σ' H', Post σ' H' → D.nx σ' H') → (∀ v H', R v H' → D.rt v H') → t D σ H) : PS X st (trR Pre Post R) :=
  ⟨fun pins s σ H D I h2 => h.run pins s σ H D I (ht D σ H h2.1 h2.2.1 h2.2.2)⟩
theorem ps_trRE {X : Cx} {st : Stmt} {ι : Type} {Pre Post : ι → L2.St → Hp → Prop} {R : ι → VK} (h : ∀ i, PS X st (trR (Pre i) (Post i) (R i))) : PS X st (fun D σ H => ∃ i, Pre i σ H ∧ (∀ σ' H', Post i σ' H' → D.nx σ' H') ∧ ∀ v H', R i v H' → D.rt v H') :=
  ⟨fun pins s σ H D I h2 => by
    obtain ⟨i, h3⟩ := h2
    exact (h i).run pins s σ H D I h3⟩
/-! ### what the drawing of a working holds -/
structure Ix where
  D : Addr
  A : Addr
  B : Addr
  va : Addr
  bd : List PyData
  sd : List PyData
  ns : List Str
  n0 : Str
  n1 : Str
  HH : Hp
structure WB (K : PySem.W.Frag) (D A B va F : Addr) (bd sd : List PyData) (ns : List Str) (n0 n1 : Str) (fs : List Str) (HH G : Hp) : Prop where
  k : DeckAt G D
  sa : ScAt K D G (.ref va) bd sd
  hA : G A = some (.lst (ns.map V.str))
  hB : G B = some (.lst [.str n0, .str n1])
  bu : Bu D HH G
  hF : G F = some (.lst (fs.map V.str))
  nF : HH F = none
  FD : F ≠ D
  AD : A ≠ D
  BD : B ≠ D
  AF : A ≠ F
  BF : B ≠ F
  f0 : fs ≠ []
  fl : fs.length ≤ 12
  nl : ns.length ≤ 10
section
variable {K : PySem.W.Frag} {D A B va F : Addr} {bd sd : List PyData} {ns : List Str} {n0 n1 : Str} {fs : List Str} {HH G G' : Hp}
theorem WB.to (w : WB K D A B va F bd sd ns n0 n1 fs HH G) (b : Bu D G G') (k : DeckAt G' D) : WB K D A B va F bd sd ns n0 n1 fs HH G' := ⟨k, w.sa.kt (.bu w.k b), b _ _ w.AD w.hA, b _ _ w.BD w.hB, w.bu.trans b, b _ _ w.FD w.hF, w.nF, w.FD, w.AD, w.BD, w.AF, w.BF, w.f0, w.fl, w.nl⟩
theorem WB.ex (w : WB K D A B va F bd sd ns n0 n1 fs HH G) (e : Evl.Ex G G') : WB K D A B va F bd sd ns n0 n1 fs HH G' := w.to (.of e) (w.k.ex e)
theorem WB.put (w : WB K D A B va F bd sd ns n0 n1 fs HH G) (x : Str) (l : fs.length < 12) : WB K D A B va F bd sd ns n0 n1 (fs ++ [x]) HH (upd G F (.lst (fs.map V.str ++ [.str x]))) := by
  refine ⟨?_, w.sa.kt (.lst w.hF), ?_, ?_, fun a o na ha => ?_, ?_, w.nF, w.FD, w.AD, w.BD, w.AF, w.BF, by simp, ?_, w.nl⟩
  · obtain ⟨g1, k1, k2, hD, hm⟩ := w.k
    exact ⟨g1, k1, k2, by rw [upd_ne w.FD.symm]; exact hD, hm⟩
  · rw [upd_ne w.AF]
    exact w.hA
  · rw [upd_ne w.BF]
    exact w.hB
  · rw [upd_ne (fun e => by subst e; rw [w.nF] at ha; cases ha)]
    exact w.bu a o na ha
  · rw [upd_same, List.map_append]
    rfl
  · rw [List.length_append]
    exact l
end
theorem rd_noL (sc nm : Str) : noL (Stp.rd sc nm).d = true := rfl
theorem fnd_noL {bd sd : List PyData} {ns : List Str} {n0 : Str} {k : Int} {p : List Stp} {fs : List Str} (h : Fnd bd sd ns n0 k p fs) : noLA (Stp.ds p) = true := by
  cases h with
  | base h => exact plains_noL h
  | @one p q sc h l0 l1 r g m0 m1 =>
    rw [ds_app, ds_app, noLA_app, noLA_app, plains_noL h, plains_noL g]
    rfl
  | note h r hk =>
    show (noL _ && (noL _ && true)) = true
    rw [plain_noL h]
    rfl
theorem fnd_len {bd sd : List PyData} {ns : List Str} {n0 : Str} {k : Int} {p : List Stp} {fs : List Str} (h : Fnd bd sd ns n0 k p fs) : 1 ≤ p.length ∧ p.length ≤ 5 := by
  cases h with
  | base h l0 l1 => omega
  | @one p q sc h l0 l1 r g m0 m1 =>
    rw [List.length_append, List.length_append, List.length_singleton]
    omega
  | note h r hk => exact ⟨by show 1 ≤ 2; decide, by show 2 ≤ 5; decide⟩
theorem tr_noL {a b : List Stp} (ha : noLA (Stp.ds a) = true) (hb : noLA (Stp.ds b) = true) : noL (Stp.tr a b).d = true := by
  show (true && (noLA (Stp.ds a) && (noLA (Stp.ds b) && true))) = true
  rw [ha, hb]
  rfl
theorem sl_both {K : PySem.W.Frag} {D : Addr} {H : Hp} {v : V} {ds : List PyData} {i j : Nat} {Q : VK} (h : Dt K D H v (.tuple ds)) (q : ∀ (p : Addr) (H' : Hp), Dt K D H' (.ref p) (.tuple ((ds.drop i).take (j - i))) → Evl.Ex H H' → Q (.ref p) H') : rSlA K v (some (i : Int)) (some (j : Int)) H Q := by
  obtain ⟨a, xs, rfl, t, g⟩ := h.tupA
  have key : cutV xs (some (i : Int)) (some (j : Int)) = (xs.drop i).take (j - i) := by
    unfold cutV
    rw [HT.sIx_nat, HT.sIx_nat]
    by_cases hi : i ≤ xs.length
    · have m1 : min i xs.length = i := Nat.min_eq_left hi
      rw [m1]
      by_cases hj : j ≤ xs.length
      · rw [show min j xs.length = j from Nat.min_eq_left hj]
      · rw [show min j xs.length = xs.length from Nat.min_eq_right (by omega), List.take_of_length_le (by rw [List.length_drop]; exact Nat.le_refl _), List.take_of_length_le (by rw [List.length_drop]; omega)]
    · rw [show min i xs.length = xs.length from Nat.min_eq_right (by omega), List.drop_of_length_le (Nat.le_refl _), List.drop_of_length_le (by omega)]
      simp
  refine ⟨a, xs, rfl, t, fun hw => ?_, fun hw p np => ?_⟩
  · have e : (ds.drop i).take (j - i) = ds := by
      rw [HT.sIx_nat, HT.sIx_nat] at hw
      have l := g.len
      by_cases z : xs.length = 0
      · rw [z] at l
        rw [List.length_eq_zero_iff.mp l.symm]
        simp
      · have i0 : i = 0 := by omega
        subst i0
        rw [List.drop_zero, Nat.sub_zero]
        exact List.take_of_length_le (by omega)
    exact q a H (by rw [e]; exact .tup t g) (Evl.Ex.refl _)
  · have x := ex_new (o := .tup (cutV xs (some (i : Int)) (some (j : Int)))) np
    refine q p _ (.tup (SqT.of upd_same) ?_) x
    rw [key]
    rw [key] at x
    exact ((g.drop i).take (j - i)).ex x
def Yk3 (K : PySem.W.Frag) (D A B va : Addr) (bd sd : List PyData) (ns : List Str) (n0 n1 : Str) (HH : Hp) : L2.St → Hp → Prop := fun σ G => ∃ x7 x8 x9 x10 x11, ∃ (kd : Int), ∃ (F : Addr), ∃ (vf : V), ∃ (p : List Stp), σ = [some (.ref D), some (.ref va), some (.ref A), some (.ref B), some (.int kd), some (.ref F), some (vf), x7, x8, x9, x10, x11] ∧ (WB K D A B va F bd sd ns n0 n1 ns HH G) ∧ (Dt K D G vf (.tuple (Stp.ds p))) ∧ (PlainL bd sd ns p) ∧ (1 ≤ p.length) ∧ (p.length ≤ 2) ∧ (0 ≤ kd ∧ kd < 5)
def Yk4 (K : PySem.W.Frag) (D A B va : Addr) (bd sd : List PyData) (ns : List Str) (n0 n1 : Str) (HH : Hp) : L2.St → Hp → Prop := fun σ G => ∃ x7 x8 x9 x10 x11, ∃ (kd : Int), ∃ (F : Addr), ∃ (vf : V), ∃ (p : List Stp), ∃ (fs : List Str), σ = [some (.ref D), some (.ref va), some (.ref A), some (.ref B), some (.int kd), some (.ref F), some (vf), x7, x8, x9, x10, x11] ∧ (WB K D A B va F bd sd ns n0 n1 fs HH G) ∧ (Dt K D G vf (.tuple (Stp.ds p))) ∧ (Fnd bd sd ns n0 kd p fs) ∧ (kd ≠ 1 → PlainL bd sd ns p ∧ fs = ns ∧ 1 ≤ p.length ∧ p.length ≤ 2) ∧ (0 ≤ kd ∧ kd < 5)
def Yk5 (K : PySem.W.Frag) (D A B va : Addr) (bd sd : List PyData) (ns : List Str) (n0 n1 : Str) (HH : Hp) : L2.St → Hp → Prop := fun σ G => ∃ x7 x8 x9 x10 x11, ∃ (kd : Int), ∃ (F : Addr), ∃ (vf : V), ∃ (p : List Stp), ∃ (fs : List Str), σ = [some (.ref D), some (.ref va), some (.ref A), some (.ref B), some (.int kd), some (.ref F), some (vf), x7, x8, x9, x10, x11] ∧ (WB K D A B va F bd sd ns n0 n1 fs HH G) ∧ (Dt K D G vf (.tuple (Stp.ds p))) ∧ (Fnd bd sd ns n0 kd p fs) ∧ (0 ≤ kd ∧ kd < 5) ∧ (kd = 3 → PlainL bd sd ns p ∧ fs = ns ∧ 1 ≤ p.length)
def Yk6 (K : PySem.W.Frag) (D A B va : Addr) (bd sd : List PyData) (ns : List Str) (n0 n1 : Str) (HH : Hp) : L2.St → Hp → Prop := fun σ G => ∃ x7 x8 x9 x10 x11, ∃ (kd : Int), ∃ (F : Addr), ∃ (vf : V), ∃ (p : List Stp), ∃ (fs : List Str), σ = [some (.ref D), some (.ref va), some (.ref A), some (.ref B), some (.int kd), some (.ref F), some (vf), x7, x8, x9, x10, x11] ∧ (WB K D A B va F bd sd ns n0 n1 fs HH G) ∧ (Dt K D G vf (.tuple (Stp.ds p))) ∧ (Fnd bd sd ns n0 kd p fs) ∧ (0 ≤ kd ∧ kd < 5) ∧ (kd = 3 → PlainL bd sd ns p ∧ fs = ns ∧ 1 ≤ p.length) ∧ (kd ≠ 4)
def Yk7 (K : PySem.W.Frag) (D A B va : Addr) (bd sd : List PyData) (ns : List Str) (n0 n1 : Str) (HH : Hp) : L2.St → Hp → Prop := fun σ G => ∃ x4 x5 x7 x8 x9 x10 x11, ∃ (F : Addr), ∃ (vf : V), ∃ (p : List Stp), ∃ (fs : List Str), σ = [some (.ref D), some (.ref va), some (.ref A), some (.ref B), x4, x5, some (vf), x7, x8, x9, x10, x11] ∧ (WB K D A B va F bd sd ns n0 n1 fs HH G) ∧ (Dt K D G vf (.tuple (Stp.ds p))) ∧ (noLA (Stp.ds p) = true) ∧ (p.length ≤ 10) ∧ (∀ sc, RdOk bd sd sc → Wk bd sd ns n0 n1 (p ++ [.rd sc n1]))
def Yk8 (K : PySem.W.Frag) (D A B va : Addr) (bd sd : List PyData) (ns : List Str) (n0 n1 : Str) (HH : Hp) : L2.St → Hp → Prop := fun σ G => ∃ x9 x10 x11, ∃ (kd : Int), ∃ (F : Addr), ∃ (vf : V), ∃ (p : List Stp), ∃ (fs : List Str), ∃ (vg : V), ∃ (vh : V), ∃ (f : List Stp), ∃ (g : List Stp), σ = [some (.ref D), some (.ref va), some (.ref A), some (.ref B), some (.int kd), some (.ref F), some (vf), some (vg), some (vh), x9, x10, x11] ∧ (WB K D A B va F bd sd ns n0 n1 fs HH G) ∧ (Dt K D G vf (.tuple (Stp.ds p))) ∧ (Fnd bd sd ns n0 kd p fs) ∧ (0 ≤ kd ∧ kd < 5) ∧ (kd = 3 → PlainL bd sd ns p ∧ fs = ns ∧ 1 ≤ p.length) ∧ (kd ≠ 4) ∧ (kd = 2 ∨ kd = 3) ∧ (Dt K D G vg (.tuple (Stp.ds f))) ∧ (Dt K D G vh (.tuple (Stp.ds g))) ∧ (PlainL bd sd fs f) ∧ (1 ≤ f.length) ∧ (f.length ≤ 2) ∧ (PlainL bd sd fs g) ∧ (g.length ≤ 1)
def Yk9 (K : PySem.W.Frag) (D A B va : Addr) (bd sd : List PyData) (ns : List Str) (n0 n1 : Str) (HH : Hp) : L2.St → Hp → Prop := fun σ G => ∃ x4 x9 x10 x11, ∃ (F : Addr), ∃ (vf : V), ∃ (p : List Stp), ∃ (fs : List Str), ∃ (vg : V), ∃ (vh : V), ∃ (f : List Stp), ∃ (g : List Stp), σ = [some (.ref D), some (.ref va), some (.ref A), some (.ref B), x4, some (.ref F), some (vf), some (vg), some (vh), x9, x10, x11] ∧ (WB K D A B va F bd sd ns n0 n1 fs HH G) ∧ (Dt K D G vf (.tuple (Stp.ds p))) ∧ (Dt K D G vg (.tuple (Stp.ds f))) ∧ (Dt K D G vh (.tuple (Stp.ds g))) ∧ (noLA (Stp.ds p) = true) ∧ (noLA (Stp.ds f) = true) ∧ (noLA (Stp.ds g) = true) ∧ (p.length ≤ 5) ∧ (∀ (q : List Stp) sc, PlainL bd sd fs q → q.length ≤ 1 → RdOk bd sd sc → Wk bd sd ns n0 n1 (p ++ [.tr f g] ++ q ++ [.rd sc n1]))
end Qj
namespace Qj
open PySem PySem.Spec PyProof.Rows L2
open TL (tl joinL tl_append len_tl ext_tl tl_join join_eq)
/-! ### texts of workings -/
def figT : PyData → Str
  | .str x => x
  | .tuple [.int a, .int b] => (toString a : Str) ++ "/" ++ (toString b : Str)
  | _ => ""
mutual
/-- the pieces of a step's text -/
def Stp.pc : Stp → List Str
  | .set w sc st f => [w, if st = 0 then sc else sc ++ "." ++ (toString st : Str), figT f]
  | .rd sc nm => ["read", sc, nm]
  | .tr a b => (["try", "{"] : List Str) ++ Stp.pcA a ++ (["}", "else", "{"] : List Str) ++ Stp.pcA b ++ (["}"] : List Str)
def Stp.pcA : List Stp → List Str
  | [] => []
  | s :: r => s.pc ++ Stp.pcB r
def Stp.pcB : List Stp → List Str
  | [] => []
  | s :: r => [(";" : Str)] ++ (s.pc ++ Stp.pcB r)
end
theorem pcB_cons (s : Stp) (r : List Stp) : Stp.pcB (s :: r) = [(";" : Str)] ++ Stp.pcA (s :: r) := rfl
theorem pc_ne (s : Stp) : s.pc ≠ [] := by
  cases s with
  | set w sc st f =>
    rw [Stp.pc]
    simp
  | rd sc nm =>
    rw [Stp.pc]
    simp
  | tr a b =>
    rw [Stp.pc]
    simp
theorem pcA_ne {a : List Stp} (h : a ≠ []) : Stp.pcA a ≠ [] := by
  cases a with
  | nil => exact absurd rfl h
  | cons s r =>
    rw [Stp.pcA]
    intro z
    exact pc_ne s (List.append_eq_nil_iff.mp z).1
/-- the text of pieces -/
def sp1 : List Nat := [32]
def lnP (ps : List Str) : List Nat := joinL sp1 (ps.map tl)
theorem joinL_app {S : List Nat} : ∀ {a b : List (List Nat)}, a ≠ [] → b ≠ [] → joinL S (a ++ b) = joinL S a ++ (S ++ joinL S b)
  | [], _, h, _ => absurd rfl h
  | [p], [], _, h => absurd rfl h
  | [p], q :: r, _, _ => rfl
  | p :: q :: r, b, _, hb => by
    show p ++ (S ++ joinL S (q :: r ++ b)) = p ++ (S ++ joinL S (q :: r)) ++ (S ++ joinL S b)
    rw [joinL_app (a := q :: r) (by simp) hb]
    simp only [List.append_assoc]
theorem lnP_app {a b : List Str} (ha : a ≠ []) (hb : b ≠ []) : lnP (a ++ b) = lnP a ++ (sp1 ++ lnP b) := by
  unfold lnP
  rw [List.map_append]
  exact joinL_app (by simpa using ha) (by simpa using hb)
theorem lnP_one (x : Str) : lnP [x] = tl x := rfl
theorem lnP_two (x y : Str) : lnP [x, y] = tl x ++ (sp1 ++ tl y) := rfl
theorem lnP_three (x y z : Str) : lnP [x, y, z] = tl x ++ (sp1 ++ (tl y ++ (sp1 ++ tl z))) := rfl
/-- a part's text -/
def lnPart (a : List Stp) : List Nat := if a = [] then tl "{ }" else tl "{ " ++ (lnP (Stp.pcA a) ++ tl " }")
theorem lnP_tr (a b : List Stp) : lnP (Stp.tr a b).pc = tl "try " ++ (lnPart a ++ (tl " else " ++ lnPart b)) := by
  rw [Stp.pc]
  have key : ∀ (c : List Stp) (rest : List Str), rest ≠ [] → lnP ([("{" : Str)] ++ Stp.pcA c ++ [("}" : Str)] ++ rest) = lnPart c ++ (sp1 ++ lnP rest) := by
    intro c rest hr
    rw [lnP_app (by simp) hr]
    unfold lnPart
    by_cases h : c = []
    · subst h
      rfl
    · rw [if_neg h, lnP_app (by simp) (by simp), lnP_app (by simp) (pcA_ne h)]
      have e1 : tl "{ " = tl "{" ++ sp1 := by decide
      have e2 : tl " }" = sp1 ++ tl "}" := by decide
      rw [e1, e2, lnP_one, lnP_one]
      simp only [List.append_assoc]
  have key2 : ∀ (c : List Stp), lnP ([("{" : Str)] ++ Stp.pcA c ++ [("}" : Str)]) = lnPart c := by
    intro c
    unfold lnPart
    by_cases h : c = []
    · subst h
      rfl
    · rw [if_neg h, lnP_app (by simp) (by simp), lnP_app (by simp) (pcA_ne h)]
      have e1 : tl "{ " = tl "{" ++ sp1 := by decide
      have e2 : tl " }" = sp1 ++ tl "}" := by decide
      rw [e1, e2, lnP_one, lnP_one]
      simp only [List.append_assoc]
  have split : ((["try", "{"] : List Str) ++ Stp.pcA a ++ (["}", "else", "{"] : List Str) ++ Stp.pcA b ++ (["}"] : List Str)) = ([("try" : Str)]) ++ ([("{" : Str)] ++ Stp.pcA a ++ [("}" : Str)] ++ ([("else" : Str)] ++ ([("{" : Str)] ++ Stp.pcA b ++ [("}" : Str)]))) := by
    simp only [List.append_assoc, List.cons_append, List.nil_append]
  rw [split, lnP_app (by simp) (by simp), key a _ (by simp), lnP_app (by simp) (by simp), key2 b, lnP_one, lnP_one]
  have e1 : tl "try " = tl "try" ++ sp1 := by decide
  have e2 : tl " else " = sp1 ++ (tl "else" ++ sp1) := by decide
  rw [e1, e2]
  simp only [List.append_assoc]
/-- texts with " ; " between are the pieces' text -/
theorem join_steps : ∀ (a : List Stp) (ys : List Str), ys.length = a.length → (∀ (i : Nat) (s : Stp) (y : Str), a[i]? = some s → ys[i]? = some y → tl y = lnP s.pc) → tl (Txt.join " ; " ys) = lnP (Stp.pcA a) := by
  intro a
  induction a with
  | nil =>
    intro ys h _
    rw [List.length_eq_zero_iff.mp h]
    rfl
  | cons s r ih =>
    intro ys h hy
    match ys, h with
    | y :: zs, h =>
      have h1 : zs.length = r.length := Nat.succ.inj h
      have e0 := hy 0 s y rfl rfl
      have ih1 := ih zs h1 fun i t z a b => hy (i + 1) t z a b
      rw [join_eq, tl_join] at ih1 ⊢
      match r, zs, h1 with
      | [], [], _ =>
        show tl y = lnP (s.pc ++ [])
        rw [List.append_nil]
        exact e0
      | t :: r', z :: zs', h1 =>
        show tl y ++ (tl " ; " ++ joinL (tl " ; ") ((z :: zs').map tl)) = lnP (s.pc ++ Stp.pcB (t :: r'))
        rw [ih1, e0, pcB_cons, lnP_app (pc_ne s) (by simp), lnP_app (by simp) (pcA_ne (by simp)), lnP_one]
        have e1 : tl " ; " = sp1 ++ (tl ";" ++ sp1) := by decide
        rw [e1]
        simp only [List.append_assoc]
/-! ### how long they are -/
inductive GFig : PyData → Prop
  | s {x : Str} (h : x.length ≤ 5) : GFig (.str x)
  | m {m : Int × Int} (h : Mn m) : GFig (frD m)
mutual
def Stp.G : Stp → Prop
  | .set w sc st f => (w = "line" ∨ w = "slide") ∧ sc.length ≤ 3 ∧ 0 ≤ st ∧ st < 3 ∧ GFig f
  | .rd sc nm => sc.length ≤ 3 ∧ nm.length ≤ 3
  | .tr a b => Stp.GA a ∧ Stp.GA b
def Stp.GA : List Stp → Prop
  | [] => True
  | s :: r => s.G ∧ Stp.GA r
end
mutual
def Stp.cnt : Stp → Nat
  | .set _ _ _ _ => 1
  | .rd _ _ => 1
  | .tr a b => 1 + Stp.cntA a + Stp.cntA b
def Stp.cntA : List Stp → Nat
  | [] => 0
  | s :: r => s.cnt + Stp.cntA r
end
mutual
def Stp.dep : Stp → Nat
  | .set _ _ _ _ => 0
  | .rd _ _ => 0
  | .tr a b => 1 + max (Stp.depA a) (Stp.depA b)
def Stp.depA : List Stp → Nat
  | [] => 0
  | s :: r => max s.dep (Stp.depA r)
end
theorem int_len {i : Int} (h : i.natAbs < 10 ^ 7) : (toString i : Str).length ≤ 8 := by
  rw [PySem.ofString_length]
  exact int_text_length_le10 (by decide) h
theorem fig_len {f : PyData} (h : GFig f) : (tl (figT f)).length ≤ 17 := by
  cases h with
  | @s x h =>
    rw [← len_tl]
    show x.length ≤ 17
    omega
  | @m m h =>
    have a := h.m.lo
    have b := h.m.hi
    have c := h.s
    have l1 := int_len (i := m.1) (by omega)
    have l2 := int_len (i := m.2) (by omega)
    show (tl ((toString m.1 : Str) ++ "/" ++ (toString m.2 : Str))).length ≤ 17
    rw [tl_append, tl_append, List.length_append, List.length_append, ← len_tl, ← len_tl, ← len_tl]
    have : ("/" : Str).length = 1 := by decide
    omega
theorem place_len {sc : Str} {st : Int} (h : sc.length ≤ 3) (h0 : 0 ≤ st) (h1 : st < 3) : (tl (if st = 0 then sc else sc ++ "." ++ (toString st : Str))).length ≤ 12 := by
  split
  · rw [← len_tl]
    omega
  · have l1 := int_len (i := st) (by omega)
    rw [tl_append, tl_append, List.length_append, List.length_append, ← len_tl, ← len_tl, ← len_tl]
    have : ("." : Str).length = 1 := by decide
    omega
mutual
theorem pc_len : ∀ s : Stp, s.G → (lnP s.pc).length + 10 ≤ 100 * s.cnt
  | .set w sc st f, h => by
    rw [Stp.G] at h
    obtain ⟨hw, h1, h2, h3, h4⟩ := h
    have a := fig_len h4
    have b := place_len h1 h2 h3
    have c : (tl w).length ≤ 5 := by rcases hw with rfl | rfl <;> decide
    have e : sp1.length = 1 := rfl
    rw [Stp.pc, lnP_three, Stp.cnt]
    simp only [List.length_append, e]
    omega
  | .rd sc nm, h => by
    rw [Stp.G] at h
    obtain ⟨h1, h2⟩ := h
    have e : sp1.length = 1 := rfl
    have c : (tl ("read" : Str)).length = 4 := by decide
    rw [Stp.pc, lnP_three, Stp.cnt]
    simp only [List.length_append, e, c]
    rw [← len_tl, ← len_tl]
    omega
  | .tr a b, h => by
    rw [Stp.G] at h
    have l1 := part_len a h.1
    have l2 := part_len b h.2
    rw [lnP_tr, Stp.cnt]
    simp only [List.length_append]
    have e1 : (tl ("try " : Str)).length = 4 := by decide
    have e2 : (tl (" else " : Str)).length = 6 := by decide
    omega
theorem part_len : ∀ a : List Stp, Stp.GA a → (lnPart a).length ≤ 100 * Stp.cntA a + 4
  | [], _ => by
    show (tl "{ }").length ≤ _
    have : (tl ("{ }" : Str)).length = 3 := by decide
    omega
  | s :: r, h => by
    have l := pcA_len (s :: r) h
    unfold lnPart
    rw [if_neg (by simp)]
    have e1 : (tl ("{ " : Str)).length = 2 := by decide
    have e2 : (tl (" }" : Str)).length = 2 := by decide
    simp only [List.length_append]
    omega
theorem pcA_len : ∀ a : List Stp, Stp.GA a → (lnP (Stp.pcA a)).length ≤ 100 * Stp.cntA a
  | [], _ => by
    show 0 ≤ _
    omega
  | [s], h => by
    rw [Stp.GA] at h
    have l := pc_len s h.1
    show (lnP (s.pc ++ [])).length ≤ _
    rw [List.append_nil]
    show _ ≤ 100 * (s.cnt + 0)
    omega
  | s :: t :: r, h => by
    rw [Stp.GA] at h
    have l := pc_len s h.1
    have l2 := pcA_len (t :: r) h.2
    show (lnP (s.pc ++ Stp.pcB (t :: r))).length ≤ 100 * (s.cnt + Stp.cntA (t :: r))
    rw [pcB_cons, lnP_app (pc_ne s) (by simp), lnP_app (by simp) (pcA_ne (by simp)), lnP_one]
    have e1 : (tl (";" : Str)).length = 1 := by decide
    have e : sp1.length = 1 := rfl
    simp only [List.length_append, e, e1]
    omega
end
end Qj
namespace Qj
open PySem PySem.Spec PyProof.Rows L2
open TL (tl joinL tl_append len_tl ext_tl tl_join join_eq)
def spFigT (K : PySem.W.Frag) : Sp := fun vs H Q _ => ∃ (D : Addr) (v : V) (f : PyData), vs = [v] ∧ Dt K D H v f ∧ GFig f ∧ ∀ x H', Evl.Ex H H' → tl x = tl (figT f) → Q (.str x) H'
def spStepT (K : PySem.W.Frag) (n : Nat) : Sp := fun vs H Q _ => ∃ (D : Addr) (v : V) (s : Stp), vs = [v] ∧ Dt K D H v s.d ∧ s.G ∧ s.dep ≤ n ∧ s.cnt ≤ 40 ∧ ∀ x H', Evl.Ex H H' → tl x = lnP s.pc → Q (.str x) H'
def spPartT (K : PySem.W.Frag) (n : Nat) : Sp := fun vs H Q _ => ∃ (D : Addr) (v : V) (a : List Stp), vs = [v] ∧ Dt K D H v (.tuple (Stp.ds a)) ∧ Stp.GA a ∧ Stp.depA a < n ∧ Stp.cntA a ≤ 40 ∧ ∀ x H', Evl.Ex H H' → tl x = lnPart a → Q (.str x) H'
def spWorkT (K : PySem.W.Frag) (n : Nat) : Sp := fun vs H Q _ => ∃ (D : Addr) (v : V) (a : List Stp), vs = [v] ∧ Dt K D H v (.tuple (Stp.ds a)) ∧ Stp.GA a ∧ Stp.depA a ≤ n ∧ Stp.cntA a ≤ 40 ∧ ∀ x H', Evl.Ex H H' → tl x = lnP (Stp.pcA a) → Q (.str x) H'
theorem four_at {K : PySem.W.Frag} {D : Addr} {H : Hp} {vs : List V} {a b c d : PyData} (g : DtA K D H vs [a, b, c, d]) : ∃ x y z u, vs = [x, y, z, u] ∧ Dt K D H x a ∧ Dt K D H y b ∧ Dt K D H z c ∧ Dt K D H u d := by
  cases g with
  | cons h t =>
    obtain ⟨y, z, u, rfl, h1, h2, h3⟩ := three_at t
    exact ⟨_, y, z, u, rfl, h, h1, h2, h3⟩
theorem GA_at {a : List Stp} (h : Stp.GA a) : ∀ s ∈ a, s.G := by
  induction a with
  | nil => exact fun s hs => nomatch hs
  | cons x r ih =>
    rw [Stp.GA] at h
    intro s hs
    rcases List.mem_cons.mp hs with rfl | hs
    · exact h.1
    · exact ih h.2 s hs
theorem cnt_at {a : List Stp} : ∀ s ∈ a, s.cnt ≤ Stp.cntA a := by
  induction a with
  | nil => exact fun s hs => nomatch hs
  | cons x r ih =>
    intro s hs
    show s.cnt ≤ x.cnt + Stp.cntA r
    rcases List.mem_cons.mp hs with rfl | hs
    · omega
    · have := ih s hs
      omega
theorem dep_at {a : List Stp} : ∀ s ∈ a, s.dep ≤ Stp.depA a := by
  induction a with
  | nil => exact fun s hs => nomatch hs
  | cons x r ih =>
    intro s hs
    show s.dep ≤ max x.dep (Stp.depA r)
    rcases List.mem_cons.mp hs with rfl | hs
    · omega
    · have := ih s hs
      omega
theorem cnt_pos (s : Stp) : 1 ≤ s.cnt := by
  cases s <;> rw [Stp.cnt] <;> omega
theorem len_cnt : ∀ a : List Stp, a.length ≤ Stp.cntA a
  | [] => Nat.le_refl _
  | s :: r => by
    have := len_cnt r
    have := cnt_pos s
    show r.length + 1 ≤ s.cnt + Stp.cntA r
    omega
theorem ds_get {a : List Stp} {i : Nat} {d : PyData} (h : (Stp.ds a)[i]? = some d) : ∃ s, a[i]? = some s ∧ d = s.d := by
  induction a generalizing i with
  | nil => cases h
  | cons x r ih =>
    cases i with
    | zero => cases h; exact ⟨x, rfl, rfl⟩
    | succ i => exact ih h
theorem str_ln {x : Str} {l : List Nat} (h : tl x = l) : x.length = l.length := by
  rw [len_tl, h]
theorem len_app (a b : Str) : (a ++ b).length = a.length + b.length := by
  rw [len_tl, tl_append, List.length_append, ← len_tl, ← len_tl]
theorem tl_empty : tl Str.empty = [] := rfl
theorem log_small {i : Int} (h : i.natAbs < 10 ^ 7) : i.natAbs.log2 < 1920 := Nat.lt_of_lt_of_le (PySem.Flt.log2_lt_of (k := 24) (by decide) (by omega)) (by decide)
end Qj
namespace Qj
open PySem PySem.Spec PyProof.Rows L2
open TL (tl joinL tl_append len_tl ext_tl tl_join join_eq)
section
variable {X : Cx}
/-- a list beside an empty one -/
def rNeE : R2 := fun x y H Q => ∃ (a b : Addr) (xs : List V), x = .ref a ∧ y = .ref b ∧ H a = some (.lst xs) ∧ H b = some (.lst []) ∧ Q (.bl (!xs.isEmpty)) H
theorem op_neE (hu : X.A.units < cLine) : OpR X (compareOp .NotEq) rNeE := by
  intro pins s σ H x y v u Q I rx ry h
  obtain ⟨a, b, xs, rfl, rfl, ha, hb, q⟩ := h
  cases rx
  cases ry
  obtain ⟨us, r1, p1, _⟩ := I.list (.of ha)
  obtain ⟨ws, r2, p2, _⟩ := I.list (.of hb)
  cases r2
  cases r1 with
  | nil =>
    have z := SeqAt.RcNeAt.lists (A := X.A) (s := s) (e := fun _ => true) p1.isList p2.isList rfl hu (fun j h1 h2 => absurd h1 (Nat.not_lt_zero _)) X.prog X.w X.xe (EP X pins σ Q) ?_
    · exact z
    · exact ⟨.bl false, H, I, rfl, q⟩
  | cons r rs =>
    have z := SeqAt.RcNeAt.lists_lengths (A := X.A) (s := s) p1.isList p2.isList (by simp) hu X.prog X.w X.xe (EP X pins σ Q) ?_
    · exact z
    · exact ⟨.bl true, H, I, rfl, q⟩
end
def sepP (c : List Str) : List Str := if c = [] then [] else c ++ [(";" : Str)]
theorem pcA_snoc (a : List Stp) (s : Stp) : Stp.pcA (a ++ [s]) = sepP (Stp.pcA a) ++ s.pc := by
  have key : ∀ r : List Stp, Stp.pcB (r ++ [s]) = Stp.pcB r ++ ([(";" : Str)] ++ s.pc) := by
    intro r
    induction r with
    | nil =>
      show [(";" : Str)] ++ (s.pc ++ []) = [] ++ ([(";" : Str)] ++ s.pc)
      rw [List.append_nil, List.nil_append]
    | cons t r ih =>
      show [(";" : Str)] ++ (t.pc ++ Stp.pcB (r ++ [s])) = [(";" : Str)] ++ (t.pc ++ Stp.pcB r) ++ ([(";" : Str)] ++ s.pc)
      rw [ih]
      simp only [List.append_assoc]
  cases a with
  | nil =>
    show s.pc ++ [] = sepP [] ++ s.pc
    rw [List.append_nil]
    rfl
  | cons t r =>
    show t.pc ++ Stp.pcB (r ++ [s]) = sepP (Stp.pcA (t :: r)) ++ s.pc
    unfold sepP
    rw [key, if_neg (pcA_ne (by simp))]
    show _ = t.pc ++ Stp.pcB r ++ [(";" : Str)] ++ s.pc
    simp only [List.append_assoc]
mutual
theorem pc_many : ∀ s : Stp, s.pc.length + 1 ≤ 8 * s.cnt
  | .set w sc st f => by
    rw [Stp.pc, Stp.cnt]
    show 3 + 1 ≤ 8 * 1
    decide
  | .rd sc nm => by
    rw [Stp.pc, Stp.cnt]
    show 3 + 1 ≤ 8 * 1
    decide
  | .tr a b => by
    have h1 := pcA_many a
    have h2 := pcA_many b
    rw [Stp.pc, Stp.cnt]
    simp only [List.length_append, List.length_cons, List.length_nil]
    omega
theorem pcA_many : ∀ a : List Stp, (Stp.pcA a).length ≤ 8 * Stp.cntA a
  | [] => Nat.zero_le _
  | s :: r => by
    have h1 := pc_many s
    have h2 := pcB_many r
    show (s.pc ++ Stp.pcB r).length ≤ 8 * (s.cnt + Stp.cntA r)
    rw [List.length_append]
    omega
theorem pcB_many : ∀ a : List Stp, (Stp.pcB a).length ≤ 8 * Stp.cntA a
  | [] => Nat.zero_le _
  | s :: r => by
    have h1 := pc_many s
    have h2 := pcB_many r
    show ([(";" : Str)] ++ (s.pc ++ Stp.pcB r)).length ≤ 8 * (s.cnt + Stp.cntA r)
    rw [List.length_append, List.length_append, List.length_singleton]
    omega
end
def spPcs (K : PySem.W.Frag) (n : Nat) : Sp := fun vs H Q _ => ∃ (D : Addr) (v : V) (a : List Stp), vs = [v] ∧ Dt K D H v (.tuple (Stp.ds a)) ∧ Stp.GA a ∧ Stp.depA a < n ∧ Stp.cntA a ≤ 40 ∧ ∀ l H', Evl.Ex H H' → H l = none → H' l = some (.lst ((Stp.pcA a).map V.str)) → Q (.ref l) H'
def La (K : PySem.W.Frag) (HH : Hp) (D p : Addr) (u : V) (s : Stp) (c : List Str) : L2.St → Hp → Prop := fun σ G => ∃ l x3, σ = [some (.ref p), some (.ref l), some u, x3] ∧ Evl.Ex HH G ∧ HH l = none ∧ G l = some (.lst (c.map V.str)) ∧ Dt K D HH u s.d
end Qj
namespace Qj
open PySem PySem.Spec PyProof.Rows L2
def Lw (K : PySem.W.Frag) (HH : Hp) (D p : Addr) (u : V) (s : Stp) (c : List Str) : L2.St → Hp → Prop := fun σ G => ∃ l wd sc st f, σ = [some (.ref p), some (.ref l), some u, some (.str (figT f))] ∧ Evl.Ex HH G ∧ HH l = none ∧ G l = some (.lst (c.map V.str)) ∧ Dt K D HH u s.d ∧ s = .set wd sc st f ∧ sc.length ≤ 3 ∧ 0 ≤ st ∧ st < 3
end Qj
namespace Qj
open PySem PySem.Spec PyProof.Rows L2
theorem ps_trX {X : Cx} {st : Stmt} {ι : Type} {Pre Post : ι → L2.St → Hp → Prop} (h : ∀ i, PS X st (tr (Pre i) (Post i))) : PS X st (fun D σ H => ∃ i, Pre i σ H ∧ ∀ σ' H', Post i σ' H' → D.nx σ' H') :=
  ⟨fun pins s σ H D I h2 => by
    obtain ⟨i, h3⟩ := h2
    exact (h i).run pins s σ H D I h3⟩
structure LIx (n : Nat) where
  stp : Stp
  c : List Str
  u : V
  hc : c.length ≤ 500
  gs : stp.G
  ds : stp.dep ≤ n
  cs : stp.cnt ≤ 40
theorem cnt_take : ∀ (a : List Stp) (k : Nat), Stp.cntA (a.take k) ≤ Stp.cntA a
  | _, 0 => Nat.zero_le _
  | [], k + 1 => Nat.le_refl _
  | s :: r, k + 1 => by
    have := cnt_take r k
    show s.cnt + Stp.cntA (r.take k) ≤ s.cnt + Stp.cntA r
    omega
end Qj
namespace Qj
open PySem PySem.Spec PyProof.Rows L2
open TL (tl joinL tl_append len_tl ext_tl tl_join join_eq)
/-! ### drawn workings are good, their texts shown -/
def lowS (x : Str) : Prop := ∀ c ∈ tl x, c < 16 ^ 8
theorem low_of (x : String) : lowS (Str.ofString x) := by
  intro c hc
  have hc2 : c ∈ (Str.ofString x).cps.toList := hc
  rw [Str.ofString_eq_toList] at hc2
  simp only [List.mem_map] at hc2
  obtain ⟨y, _, rfl⟩ := hc2
  have z := y.val.toNat_lt
  have e : y.toNat = y.val.toNat := rfl
  rw [e]
  omega
theorem low_app {x y : Str} (h : lowS x) (g : lowS y) : lowS (x ++ y) := by
  intro c hc
  rw [tl_append, List.mem_append] at hc
  exact hc.elim (h c) (g c)
mutual
def Stp.Lo : Stp → Prop
  | .set w sc st f => lowS w ∧ lowS sc ∧ lowS (figT f)
  | .rd sc nm => lowS sc ∧ lowS nm
  | .tr a b => Stp.LoA a ∧ Stp.LoA b
def Stp.LoA : List Stp → Prop
  | [] => True
  | s :: r => s.Lo ∧ Stp.LoA r
end
mutual
theorem pc_low : ∀ s : Stp, s.Lo → ∀ x ∈ s.pc, lowS x
  | .set w sc st f, h => by
    rw [Stp.Lo] at h
    rw [Stp.pc]
    intro x hx
    simp only [List.mem_cons, List.not_mem_nil, or_false] at hx
    rcases hx with rfl | rfl | rfl
    · exact h.1
    · split
      · exact h.2.1
      · exact low_app (low_app h.2.1 (low_of _)) (low_of _)
    · exact h.2.2
  | .rd sc nm, h => by
    rw [Stp.Lo] at h
    rw [Stp.pc]
    intro x hx
    simp only [List.mem_cons, List.not_mem_nil, or_false] at hx
    rcases hx with rfl | rfl | rfl
    · exact low_of _
    · exact h.1
    · exact h.2
  | .tr a b, h => by
    rw [Stp.Lo] at h
    have ha := pcA_low a h.1
    have hb := pcA_low b h.2
    rw [Stp.pc]
    intro x hx
    simp only [List.mem_append, List.mem_cons, List.not_mem_nil, or_false] at hx
    rcases hx with (((hx | hx) | hx) | hx) | hx
    · rcases hx with rfl | rfl <;> exact low_of _
    · exact ha x hx
    · rcases hx with rfl | rfl | rfl <;> exact low_of _
    · exact hb x hx
    · rw [hx]
      exact low_of _
theorem pcA_low : ∀ a : List Stp, Stp.LoA a → ∀ x ∈ Stp.pcA a, lowS x
  | [], _ => fun x hx => nomatch hx
  | s :: r, h => by
    rw [Stp.LoA] at h
    have h1 := pc_low s h.1
    have h2 := pcB_low r h.2
    intro x hx
    have hx2 : x ∈ s.pc ++ Stp.pcB r := hx
    exact (List.mem_append.mp hx2).elim (h1 x) (h2 x)
theorem pcB_low : ∀ a : List Stp, Stp.LoA a → ∀ x ∈ Stp.pcB a, lowS x
  | [], _ => fun x hx => nomatch hx
  | s :: r, h => by
    rw [Stp.LoA] at h
    have h1 := pc_low s h.1
    have h2 := pcB_low r h.2
    intro x hx
    have hx2 : x ∈ [(";" : Str)] ++ (s.pc ++ Stp.pcB r) := hx
    rcases List.mem_append.mp hx2 with hx | hx
    · rw [List.mem_singleton.mp hx]
      exact low_of _
    · exact (List.mem_append.mp hx).elim (h1 x) (h2 x)
end
theorem join_low {S : List Nat} (hS : ∀ c ∈ S, c < 16 ^ 8) : ∀ {ps : List (List Nat)}, (∀ p ∈ ps, ∀ c ∈ p, c < 16 ^ 8) → ∀ c ∈ joinL S ps, c < 16 ^ 8
  | [], _ => fun c hc => nomatch hc
  | [p], h => fun c hc => h p (List.mem_singleton.mpr rfl) c hc
  | p :: q :: r, h => by
    intro c hc
    have hc2 : c ∈ p ++ (S ++ joinL S (q :: r)) := hc
    rcases List.mem_append.mp hc2 with hc | hc
    · exact h p (List.mem_cons_self ..) c hc
    · rcases List.mem_append.mp hc with hc | hc
      · exact hS c hc
      · exact join_low hS (fun p hp => h p (List.mem_cons_of_mem _ hp)) c hc
/-- a text of the pieces of a good working is shown -/
theorem szd_text {a : List Stp} (g : Stp.GA a) (l : Stp.LoA a) (n : Stp.cntA a ≤ 20) {x : Str} (h : tl x = lnP (Stp.pcA a)) : Szd (.str x) 16000 60 := by
  have len := pcA_len a g
  have lx := str_ln h
  refine ⟨?_, ?_, ?_, ?_⟩
  · simp only [PyData.showable]
  · simp only [PyData.leavesShort, List.all_eq_true, decide_eq_true_eq]
    intro c hc
    have hc2 : c ∈ tl x := hc
    rw [h] at hc2
    refine join_low (fun c hc => by rw [List.mem_singleton.mp hc]; decide) (fun p hp c hc => ?_) c hc2
    obtain ⟨y, hy, rfl⟩ := List.mem_map.mp hp
    exact pcA_low a l y hy c hc
  · simp only [PyData.weight]
    have e : x.cps.size = x.length := rfl
    first
    | omega
    | (rw [e]; omega)
  · simp only [PyData.depth]
    omega
/-! ### from the drawing -/
theorem cap_low {x : Str} (h : Cap x) : lowS x := fun c hc => by
  have := (h.all c hc).2
  omega
theorem nm_low {x : Str} (h : Nm x) : lowS x := fun c hc => by
  have := (h.all c hc).2
  omega
structure GL (s : Stp) : Prop where
  g : s.G
  l : s.Lo
  c : s.cnt = 1
  d : s.dep = 0
structure GLA (n m : Nat) (a : List Stp) : Prop where
  g : Stp.GA a
  l : Stp.LoA a
  c : Stp.cntA a ≤ n
  d : Stp.depA a ≤ m
theorem fig_G {ns : List Str} (hn : ∀ x ∈ ns, Nm x) {st : Int} {f : PyData} (h : Fig ns st f) : GFig f ∧ lowS (figT f) := by
  cases h with
  | left => exact ⟨.s (by decide), low_of _⟩
  | right => exact ⟨.s (by decide), low_of _⟩
  | mark mm => exact ⟨.m mm, low_app (low_app (low_of _) (low_of _)) (low_of _)⟩
  | nm h => exact ⟨.s (Nat.le_trans (hn _ h).hi (by decide)), nm_low (hn _ h)⟩
theorem plain_GL {bd sd : List PyData} {ns : List Str} (hn : ∀ x ∈ ns, Nm x) {s : Stp} (h : PlainS bd sd ns s) : GL s := by
  cases h with
  | @mk w sc st f h =>
    obtain ⟨t, fo, hw, h1, h2⟩ := h.ex
    obtain ⟨gf, lf⟩ := fig_G hn h.fg
    have hw2 : w = "line" ∨ w = "slide" := hw.elim (fun z => .inr z.1) (fun z => .inl z.1)
    refine ⟨?_, ?_, rfl, rfl⟩
    · rw [Stp.G]
      exact ⟨hw2, h.cp.hi, h.s0, by omega, gf⟩
    · rw [Stp.Lo]
      refine ⟨?_, cap_low h.cp, lf⟩
      rcases hw2 with rfl | rfl <;> exact low_of _
theorem rd_GL {bd sd : List PyData} {sc nm : Str} (h : RdOk bd sd sc) (hn : Nm nm) : GL (.rd sc nm) := by
  refine ⟨?_, ?_, rfl, rfl⟩
  · rw [Stp.G]
    exact ⟨h.cp.hi, hn.hi⟩
  · rw [Stp.Lo]
    exact ⟨cap_low h.cp, nm_low hn⟩
theorem gla_nil : GLA 0 0 [] := ⟨by rw [Stp.GA]; trivial, by rw [Stp.LoA]; trivial, Nat.le_refl _, Nat.le_refl _⟩
theorem GLA.cons {s : Stp} {n m : Nat} {a : List Stp} (h : GL s) (g : GLA n m a) : GLA (n + 1) m (s :: a) := by
  refine ⟨?_, ?_, ?_, ?_⟩
  · rw [Stp.GA]
    exact ⟨h.g, g.g⟩
  · rw [Stp.LoA]
    exact ⟨h.l, g.l⟩
  · show s.cnt + Stp.cntA a ≤ _
    have := h.c
    have := g.c
    omega
  · show max s.dep (Stp.depA a) ≤ _
    have := h.d
    have := g.d
    omega
theorem GLA.app {n m k j : Nat} {a b : List Stp} (h : GLA n m a) (g : GLA k j b) : GLA (n + k) (max m j) (a ++ b) := by
  induction a generalizing n with
  | nil => exact ⟨g.g, g.l, by have := g.c; show Stp.cntA b ≤ _; omega, by have := g.d; show Stp.depA b ≤ _; omega⟩
  | cons s r ih =>
    obtain ⟨h1, h2, h3, h4⟩ := h
    rw [Stp.GA] at h1
    rw [Stp.LoA] at h2
    have h3' : s.cnt + Stp.cntA r ≤ n := h3
    have h4' : max s.dep (Stp.depA r) ≤ m := h4
    have z := ih (n := n - s.cnt) ⟨h1.2, h2.2, by omega, by omega⟩
    refine ⟨?_, ?_, ?_, ?_⟩
    · show Stp.GA (s :: (r ++ b))
      rw [Stp.GA]
      exact ⟨h1.1, z.g⟩
    · show Stp.LoA (s :: (r ++ b))
      rw [Stp.LoA]
      exact ⟨h2.1, z.l⟩
    · show s.cnt + Stp.cntA (r ++ b) ≤ _
      have := z.c
      omega
    · show max s.dep (Stp.depA (r ++ b)) ≤ _
      have := z.d
      omega
theorem GLA.mono {n m n' m' : Nat} {a : List Stp} (h : GLA n m a) (hn : n ≤ n') (hm : m ≤ m') : GLA n' m' a := ⟨h.g, h.l, Nat.le_trans h.c hn, Nat.le_trans h.d hm⟩
theorem plains_GLA {bd sd : List PyData} {ns : List Str} (hn : ∀ x ∈ ns, Nm x) : ∀ {p : List Stp}, PlainL bd sd ns p → GLA p.length 0 p
  | [], _ => gla_nil
  | s :: r, h => (plains_GLA hn fun x hx => h x (List.mem_cons_of_mem _ hx)).cons (plain_GL hn (h s (List.mem_cons_self ..)))
theorem GL.one {s : Stp} (h : GL s) : GLA 1 0 [s] := gla_nil.cons h
theorem gla_tr {n m k j : Nat} {a b : List Stp} (h : GLA n m a) (g : GLA k j b) : GLA (1 + n + k) (1 + max m j) [.tr a b] := by
  refine ⟨?_, ?_, ?_, ?_⟩
  · rw [Stp.GA, Stp.GA, Stp.G]
    exact ⟨⟨h.g, g.g⟩, trivial⟩
  · rw [Stp.LoA, Stp.LoA, Stp.Lo]
    exact ⟨⟨h.l, g.l⟩, trivial⟩
  · show (1 + Stp.cntA a + Stp.cntA b) + 0 ≤ _
    have := h.c
    have := g.c
    omega
  · show max (1 + max (Stp.depA a) (Stp.depA b)) 0 ≤ _
    have := h.d
    have := g.d
    omega
theorem fnd_GLA {bd sd : List PyData} {ns : List Str} {n0 : Str} {k : Int} {p : List Stp} {fs : List Str} (hn : ∀ x ∈ ns, Nm x) (h0 : Nm n0) (h : Fnd bd sd ns n0 k p fs) : GLA 5 0 p ∧ ∀ x ∈ fs, Nm x := by
  have hn0 : ∀ x ∈ ns ++ [n0], Nm x := fun x hx => (List.mem_append.mp hx).elim (hn x) fun z => by rw [List.mem_singleton.mp z]; exact h0
  cases h with
  | base h l0 l1 => exact ⟨(plains_GLA hn h).mono (by omega) (Nat.le_refl _), hn⟩
  | one h l0 l1 r g m0 m1 => exact ⟨(((plains_GLA hn h).app (rd_GL r h0).one).app (plains_GLA hn0 g)).mono (by omega) (by decide), hn0⟩
  | note h r hk => exact ⟨((rd_GL r h0).one.cons (plain_GL hn h)).mono (by decide) (by decide), hn0⟩
theorem gla_take {n m : Nat} : ∀ {a : List Stp} (k : Nat), GLA n m a → GLA n m (a.take k)
  | _, 0, _ => gla_nil.mono (Nat.zero_le _) (Nat.zero_le _)
  | [], k + 1, h => h
  | s :: r, k + 1, h => by
    obtain ⟨h1, h2, h3, h4⟩ := h
    rw [Stp.GA] at h1
    rw [Stp.LoA] at h2
    have h3' : s.cnt + Stp.cntA r ≤ n := h3
    have h4' : max s.dep (Stp.depA r) ≤ m := h4
    have z := gla_take k (n := n - s.cnt) (m := m) (a := r) ⟨h1.2, h2.2, by omega, by omega⟩
    refine ⟨?_, ?_, ?_, ?_⟩
    · show Stp.GA (s :: r.take k)
      rw [Stp.GA]
      exact ⟨h1.1, z.g⟩
    · show Stp.LoA (s :: r.take k)
      rw [Stp.LoA]
      exact ⟨h2.1, z.l⟩
    · show s.cnt + Stp.cntA (r.take k) ≤ _
      have := z.c
      omega
    · show max s.dep (Stp.depA (r.take k)) ≤ _
      have := z.d
      omega
theorem wk_GLA {bd sd : List PyData} {ns : List Str} {n0 n1 : Str} {ss : List Stp} (hn : ∀ x ∈ ns, Nm x) (h0 : Nm n0) (h1 : Nm n1) (h : Wk bd sd ns n0 n1 ss) : GLA 20 2 ss := by
  have hn0 : ∀ x ∈ ns ++ [n0], Nm x := fun x hx => (List.mem_append.mp hx).elim (hn x) fun z => by rw [List.mem_singleton.mp z]; exact h0
  cases h with
  | flat h hk r => exact ((fnd_GLA hn h0 h).1.app (rd_GL r h1).one).mono (by decide) (by decide)
  | deep1 h ha hb hc hq lq r =>
    obtain ⟨gp, hf⟩ := fnd_GLA hn h0 h
    have q := plains_GLA hf hq
    have a := plain_GL hf ha
    have b := plain_GL hf hb
    have c := plain_GL hf hc
    have inner := ((gla_tr b.one q).app c.one).cons a
    have t := gla_tr inner q
    exact ((gla_take 2 gp).app (t.app (rd_GL r h1).one)).mono (by omega) (by decide)
  | deep2 h ha hb hc hq lq r =>
    obtain ⟨gp, hf⟩ := fnd_GLA hn h0 h
    have q := plains_GLA hf hq
    have a := plain_GL hf ha
    have b := plain_GL hf hb
    have c := plain_GL hf hc
    have inner := ((gla_tr b.one q).app c.one).cons a
    have t := gla_tr a.one inner
    exact ((gla_take 2 gp).app (t.app (rd_GL r h1).one)).mono (by omega) (by decide)
  | try2 h hf f0 f1 hg lg hq lq r =>
    obtain ⟨gp, hfs⟩ := fnd_GLA hn h0 h
    exact (((gp.app (gla_tr (plains_GLA hfs hf) (plains_GLA hfs hg))).app (plains_GLA hfs hq)).app (rd_GL r h1).one).mono (by omega) (by decide)
  | @try3 s sc s1 s2 f1 f2 e g q h hh l0 l1 r1 he le hg lg r2 hq lq r =>
    have f1' := plains_GLA hn (fun x hx => hh x (List.mem_append_left _ hx) : PlainL bd sd ns f1)
    have f2' := plains_GLA hn (fun x hx => hh x (List.mem_append_right _ hx) : PlainL bd sd ns f2)
    rw [List.length_append] at l0 l1
    exact ((((plain_GL hn h).one.app (gla_tr (((f1'.app (rd_GL r1 h0).one).app f2').app (plains_GLA hn0 he)) ((plains_GLA hn hg).app (rd_GL r2 h0).one))).app (plains_GLA hn0 hq)).app (rd_GL r h1).one).mono (by omega) (by decide)
end Qj
namespace Qj
open PySem PySem.Spec PyProof.Rows L2
/-! ### set(xs), xs a list of texts -/
section
variable {P : Program} {w : World} {A : Around} {E : Value → Shared → Prop} {s : Shared}
/-- what a set is filled with, turn by turn: J i holds ahead of turn i -/
theorem fill_loop {I S : Addr} {fp wr : List Addr} {G : Array GenState → Array GenState → Prop} {n : Nat} {Pv : Nat → Value → Prop} {St : Nat → Shared → Prop} {R : Result → Shared → Prop} (W : WalksS P w A.in1 I fp wr G n Pv St) (sf : S ∉ fp) (J : Nat → Shared → Prop)
    (mv : ∀ i t t', J i t → Moved wr G t t' → J i t') (add : ∀ i v t (Q : Bool → Shared → Prop) (E : Value → Shared → Prop), i < n → Pv i v → J i t → (∀ b h' tk, t.toks ≤ tk → (∀ c, c ≠ S → h'.get? c = t.heap.get? c) → J (i + 1) { t with heap := h', toks := tk } → Q b { t with heap := h', toks := tk }) →
      wpAny (model P w) A.in1 (holding [v] (setAdd S v)) Q E t) (fin : ∀ t, J n t → R (.ok (.ret .none)) t) :
    ∀ (k i : Nat) (t : Shared), i + k = n → St i t → J i t → codeAny (model P w) A (.builtin "set.update.loop" ⟨[.ref S, .ref I], []⟩) R t
  | 0, i, t, e, st, j => by
    obtain rfl : i = n := e
    refine codeAny_builtin F.entry_set_update_loop ?_
    rw [Around.under_plainId F.plain_set_update_loop _]
    show wpAny _ A.in1 (pyNext (.ref I) >>= _) _ _ t
    exact wpAny_bind (W.done t _ _ st fun t' m => wpAny_pure (fin t' (mv _ _ _ j m)))
  | k + 1, i, t, e, st, j => by
    refine codeAny_builtin F.entry_set_update_loop ?_
    rw [Around.under_plainId F.plain_set_update_loop _]
    show wpAny _ A.in1 (pyNext (.ref I) >>= _) _ _ t
    refine wpAny_bind (W.item i t _ _ (by omega) st fun v t1 pv st1 m => ?_)
    show wpAny _ A.in1 (holding [v] (setAdd S v) >>= _) _ _ t1
    refine wpAny_bind (add i v t1 _ _ (by omega) pv (mv _ _ _ j m) fun b h2 tk le same j2 => ?_)
    exact wpAny_pure ⟨plainId_quiet F.plain_set_update_loop _, fill_loop W sf J mv add fin k (i + 1) _ (by omega) (W.frame _ t1 _ _ st1 le fun c hc o eo => by
      rw [same c fun z => sf (z ▸ hc)]
      exact eo) j2⟩
/-- the set that is not filled yet -/
abbrev bareSet (w : World) : Obj := { cls := .type "set", dict := none, data := .set #[] 0 (.fresh 0 0 (!w.params.followText "set-order")) }
theorem set_of_list {l : Addr} {its : Array Value} {Q : Value → Shared → Prop} (hh : A.handled = none) (hl : s.heap.IsList l its) (J : Nat → Shared → Prop)
    (j0 : ∀ t, (∀ b o, s.heap.get? b = some o → t.heap.get? b = some o) → t.heap.get? s.heap.objs.size = some (bareSet w) → t.gens = s.gens → t.drawn = s.drawn → t.os = s.os → J 0 t)
    (mv : ∀ i t t', J i t → Moved [(s.heap.push (bareSet w)).objs.size] (fun a b => b = a) t t' → J i t')
    (add : ∀ A' i v t (Q : Bool → Shared → Prop) (E : Value → Shared → Prop), its[i]? = some v → J i t → (∀ b h' tk, t.toks ≤ tk → (∀ c, c ≠ s.heap.objs.size → h'.get? c = t.heap.get? c) → J (i + 1) { t with heap := h', toks := tk } → Q b { t with heap := h', toks := tk }) →
      wpAny (model P w) A' (holding [v] (setAdd s.heap.objs.size v)) Q E t)
    (fin : ∀ t, J its.size t → Q (.ref s.heap.objs.size) t) : wpAny (model P w) A (call (.type "set") [.ref l]) Q E s := by
  have ⟨c0, r0, mro0⟩ := F.called_set.mro
  have made0 := F.called_set.made
  have sub0 := F.called_set.sub
  have not0 := F.called_set.notType
  have can0 := F.called_set.canCreate
  have chk0 := F.typeCall_set_1 (.ref l)
  refine wpAny_call (codeAny_of_tree (show wpAny _ _ (callAny (.type "set") _) _ _ _ from wpAny_pure ⟨Code.quiet_builtin _ (by decide +kernel), codeAny_builtin F.entry_type_call ?_⟩))
  rw [Around.under_plain (weight_type_call_type "set" [.ref l] []) rfl]
  (repeat (any_goals (first | assumption | wp_step)))
  refine codeAny_mono (code_set_led1 (.ref l) (E := E) (Q₁ := fun v t => v = .ref s.heap.objs.size ∧ t = { s with heap := s.heap.push (bareSet w) }) ⟨rfl, rfl⟩) fun r t hr => ?_
  rcases r with e | fl
  · exact hr
  rcases fl with _ | _ | _ | v
  case ret =>
    obtain ⟨rfl, rfl⟩ := hr
    have atS : (s.heap.push (bareSet w)).get? s.heap.objs.size = some (bareSet w) := Heap.get?_push_size _ rfl
    have tyS : Shared.TypeIs { s with heap := s.heap.push (bareSet w) } (.ref s.heap.objs.size) "set" := ⟨_, atS, rfl⟩
    have look0 := F.called_set.init.lookup
    have bind0 := F.called_set.init.bind (.ref s.heap.objs.size)
    (repeat (any_goals (first | assumption | wp_step)))
    refine codeAny_mono (codeAny_call_builtin (R := wants (fun r t => r = .none ∧ J its.size t) E) F.called_set.init.plain F.entry_set_init (check_set_init_1 tyS ?_)) fun r t hr => ?_
    · obtain ⟨⟨cl, di, da, sl⟩, ho, rfl, nl, rfl⟩ := hl
      have ho2 : (s.heap.push (bareSet w)).get? l = some { cls := .type "list", dict := di, data := .seq its nl, slots := sl } := Heap.get?_push_of_some _ ho
      have no1 := F.sub_list_set
      have no2 := F.sub_list_frozenset
      have no3 : (Value.type "list" == Value.type "dict") = false := by decide
      have isl : (s.heap.push (bareSet w)).IsList l its := ⟨_, ho2, rfl, nl, rfl⟩
      unfold Builtin.«set.__init__» noKeywords Builtin.Frozenset.updateFrom
      generalize pi : pyIter = PI
      wp_walk
      subst pi
      refine wpAny_pyIter_list isl (wpAny_bind (wpAny_runValue ?_))
      have lt : l < s.heap.objs.size := Heap.lt_size ho
      have sz : (s.heap.push (bareSet w)).objs.size = s.heap.objs.size + 1 := Heap.size_push ..
      have h3 : A.in1.in1.in1.handled = none := by simp [hh]
      refine fill_loop ((Walks.list h3 _ l (by rw [sz]; exact Nat.ne_of_lt (Nat.lt_succ_of_lt lt)) its).toS) (S := s.heap.objs.size) ?_ J mv (fun i v t Q E lt pv j k => add _ i v t Q E pv j k) (fun t j => ?_) its.size 0 _ (by omega) ⟨⟨_, Heap.get?_push_size _ rfl, rfl, rfl⟩, isl.push _⟩ ?_
      · rw [sz]
        simp only [List.mem_cons, List.not_mem_nil, or_false, not_or]
        exact And.intro (Nat.ne_of_lt (Nat.lt_succ_self _)) (Nat.ne_of_gt lt)
      · exact wpAny_pure (wpAny_pure ⟨rfl, j⟩)
      · exact j0 _ (fun b o e => Heap.get?_push_of_some _ (Heap.get?_push_of_some _ e)) (Heap.get?_push_of_some _ atS) rfl rfl rfl
    · rcases r with e | fl
      · exact hr
      rcases fl with _ | _ | _ | v
      case ret =>
        obtain ⟨rfl, j⟩ := hr
        (repeat (any_goals (first | assumption | wp_step)))
        exact fin _ j
      all_goals exact hr.elim
  all_goals exact hr.elim
/-- filled with texts -/
theorem set_of_texts {l : Addr} {its : Array Value} {xs : List Str} {Q : Value → Shared → Prop} (hh : A.handled = none) (hl : s.heap.IsList l its) (hi : StrsAre its.toList xs) (room : xs.length < scanBound)
    (fin : ∀ t M n, (∀ b o, s.heap.get? b = some o → t.heap.get? b = some o) → t.gens = s.gens → t.drawn = s.drawn → t.os = s.os → SetG (KF (mixKind P w) M) w t.heap s.heap.objs.size n → (∀ i : Int, M (Sum.inl i) = false) → (∀ x, M (Sum.inr x) = true ↔ x ∈ xs) → n ≤ xs.length → Q (.ref s.heap.objs.size) t) :
    wpAny (model P w) A (call (.type "set") [.ref l]) Q E s := by
  have none_at : ∀ b, s.heap.objs.size ≤ b → s.heap.get? b = none := fun b hb => by
    cases q : s.heap.get? b with
    | none => rfl
    | some o =>
      exact absurd (Heap.lt_size q) (Nat.not_lt.mpr hb)
  have sz : (s.heap.push (bareSet w)).objs.size = s.heap.objs.size + 1 := Heap.size_push ..
  have lx : its.size = xs.length := by rw [← StrsAre.len_eq hi, Array.length_toList]
  refine set_of_list hh hl (fun i t => (∀ b o, s.heap.get? b = some o → t.heap.get? b = some o) ∧ t.gens = s.gens ∧ t.drawn = s.drawn ∧ t.os = s.os ∧ ∃ M n, SetG (KF (mixKind P w) M) w t.heap s.heap.objs.size n ∧ (∀ i : Int, M (Sum.inl i) = false) ∧ (∀ x, M (Sum.inr x) = true ↔ x ∈ xs.take i) ∧ n ≤ i)
    (fun t k at0 g d o => ⟨k, g, d, o, fun _ => false, 0, ?_, fun _ => rfl, fun x => by simp, Nat.le_refl _⟩) ?_ ?_ ?_
  · obtain ⟨o, es, ep, tb, ho, z⟩ := setG_fresh (P := P) (w := w) s.heap
    have e := (Heap.get?_push_size s.heap (o := bareSet w) rfl).symm.trans ho
    exact ⟨o, es, ep, tb, at0.trans e, z⟩
  · rintro i t t' ⟨k, g, d, o, M, n, ⟨ob, es, ep, tb, ho, z⟩, a, b, c⟩ m
    exact ⟨fun x y e => m.heap x y (fun z => by
      rw [List.mem_singleton.mp z, none_at _ (by rw [sz]; exact Nat.le_succ _)] at e
      cases e) (k x y e), (show t'.gens = t.gens from m.gens).trans g, m.drawn.trans d, m.os.trans o, M, n, ⟨ob, es, ep, tb, m.heap _ _ (fun z => by
      have y := List.mem_singleton.mp z
      rw [sz] at y
      exact absurd y (Nat.ne_of_lt (Nat.lt_succ_self _))) ho, z⟩, a, b, c⟩
  · rintro A' i v t Q' E' hv ⟨k, g, d, o, M, n, sg, a, b, c⟩ q
    have hv2 : its.toList[i]? = some v := by rw [Array.getElem?_toList]; exact hv
    obtain ⟨tk, rfl⟩ := SS.strs_at hi i v hv2
    have li : i < xs.length := by
      rw [← lx]
      exact (Array.getElem?_eq_some_iff.mp hv).1
    have hg : xs.getD i Str.empty = xs[i] := by rw [List.getD_eq_getElem?_getD, List.getElem?_eq_getElem li]; rfl
    rw [hg]
    have is1 : (mixKind P w).is (Sum.inr xs[i]) (Value.str xs[i] tk) = true := keyIs_str _ tk
    unfold setAdd
    refine wpAny_holding (wpAny_holding (wpAny_bind ((mixKind P w).pyHash is1 (setG_add_hashed (s := { t with toks := t.toks + 1 }) sg (by omega) is1 rfl fun h2 sb r => ?_))))
    refine q _ h2 (t.toks + 1) (Nat.le_succ _) (fun c' hc => sb.2 c' hc) ⟨fun b' o' e => ?_, g, d, o, _, _, r, fun j => ?_, fun x => ?_, ?_⟩
    · refine (sb.2 b' fun z => ?_).trans (k b' o' e)
      rw [z, none_at _ (Nat.le_refl _)] at e
      cases e
    · show (M (Sum.inl j) || decide (Sum.inl j = Sum.inr xs[i])) = false
      rw [a j, Bool.false_or, decide_eq_false_iff_not]
      intro z
      cases z
    · have e1 : xs.take (i + 1) = xs.take i ++ [xs[i]] := by
        rw [List.take_succ, List.getElem?_eq_getElem li]
        rfl
      rw [e1, List.mem_append, ← b x, Bool.or_eq_true, decide_eq_true_eq, List.mem_singleton]
      exact or_congr Iff.rfl ⟨fun z => Sum.inr.inj z, fun z => by rw [z]⟩
    · split <;> omega
  · rintro t ⟨k, g, d, o, M, n, sg, a, b, c⟩
    rw [lx] at b c
    exact fin t M n k g d o sg a (fun x => (b x).trans (by rw [List.take_length])) c
end
section
variable {X : Cx}
def rSetT (K : PySem.W.Frag) (P : Program) (w : World) : List V → Hp → VK → Prop := fun vs H Q => ∃ (l : Addr) (xs : List Str), vs = [V.ref l] ∧ SqL K H l (xs.map V.str) ∧ xs.length < scanBound ∧
  ∀ a M n, H a = none → (∀ i : Int, M (Sum.inl i) = false) → (∀ x, M (Sum.inr x) = true ↔ x ∈ xs) → n ≤ xs.length → Q (.ref a) (upd H a (SetTO P w a M n))
theorem cr_setT (hc : X.calm = true) : CallR X (.type "set") (rSetT X.K X.prog X.w) := by
  intro pins s σ H vs us Q I r h
  obtain ⟨l, xs, rfl, hl, room, q⟩ := h
  rw [Vals.ref1 r]
  obtain ⟨its, rv, pl, hz⟩ := I.list hl
  have hn : H s.heap.objs.size = none := I.hok.fresh (Nat.le_refl _)
  refine set_of_texts (P := X.prog) (w := X.w) (I.ok.hd hc) pl.isList (by simpa using strsAre_of rv) room fun t M n k g d o sg a b c => ?_
  have e : t = { s with heap := t.heap, toks := t.toks } := by
    obtain ⟨x1, x2, x3, x4, x5⟩ := t
    obtain ⟨y1, y2, y3, y4, y5⟩ := s
    cases g
    cases d
    cases o
    rfl
  rw [e]
  exact ⟨.ref s.heap.objs.size, upd H s.heap.objs.size (SetTO X.prog X.w s.heap.objs.size M n), I.laid (t' := t.toks) k (Nat.le_refl _) (setT_new sg), rfl, q _ M n hn a b c⟩
end
end Qj
namespace Qj
open PySem PySem.Spec PyProof.Rows L2
/-! ### every step of a working, those inside its tries too -/
mutual
def Stp.all : Stp → List Stp
  | .set w sc st f => [.set w sc st f]
  | .rd sc nm => [.rd sc nm]
  | .tr a b => .tr a b :: (Stp.allA a ++ Stp.allA b)
def Stp.allA : List Stp → List Stp
  | [] => []
  | s :: r => s.all ++ Stp.allA r
end
theorem allA_app : ∀ a b : List Stp, Stp.allA (a ++ b) = Stp.allA a ++ Stp.allA b
  | [], b => by rw [List.nil_append, Stp.allA, List.nil_append]
  | s :: a, b => by rw [List.cons_append, Stp.allA, allA_app a b, Stp.allA, List.append_assoc]
theorem allA_snoc (a : List Stp) (s : Stp) : Stp.allA (a ++ [s]) = Stp.allA a ++ s.all := by rw [allA_app, Stp.allA, Stp.allA, List.append_nil]
mutual
theorem all_len : ∀ s : Stp, s.all.length = s.cnt
  | .set _ _ _ _ => by rw [Stp.all, Stp.cnt]; rfl
  | .rd _ _ => by rw [Stp.all, Stp.cnt]; rfl
  | .tr a b => by rw [Stp.all, Stp.cnt, List.length_cons, List.length_append, allA_len a, allA_len b]; omega
theorem allA_len : ∀ a : List Stp, (Stp.allA a).length = Stp.cntA a
  | [] => by rw [Stp.allA, Stp.cntA]; rfl
  | s :: r => by rw [Stp.allA, Stp.cntA, List.length_append, all_len s, allA_len r]
end
mutual
def Stp.N (M : List Str) : Stp → Prop
  | .set w sc st f => (w = "line" ∨ w = "slide") ∧ ∃ st', Fig M st' f
  | .rd sc nm => nm ∈ M
  | .tr a b => Stp.NA M a ∧ Stp.NA M b
def Stp.NA (M : List Str) : List Stp → Prop
  | [] => True
  | s :: r => s.N M ∧ Stp.NA M r
end
theorem NA_iff {M : List Str} : ∀ {a : List Stp}, Stp.NA M a ↔ ∀ s ∈ a, s.N M
  | [] => by rw [Stp.NA]; simp
  | s :: r => by rw [Stp.NA, NA_iff]; simp
mutual
theorem all_N {M : List Str} : ∀ {s : Stp}, s.N M → ∀ t ∈ s.all, t.N M
  | .set _ _ _ _, h, t, ht => by
    rw [Stp.all, List.mem_singleton] at ht
    exact ht ▸ h
  | .rd _ _, h, t, ht => by
    rw [Stp.all, List.mem_singleton] at ht
    exact ht ▸ h
  | .tr a b, h, t, ht => by
    rw [Stp.all, List.mem_cons, List.mem_append] at ht
    have h2 := h
    rw [Stp.N] at h2
    rcases ht with rfl | ht | ht
    · exact h
    · exact allA_N h2.1 t ht
    · exact allA_N h2.2 t ht
theorem allA_N {M : List Str} : ∀ {a : List Stp}, Stp.NA M a → ∀ t ∈ Stp.allA a, t.N M
  | [], _, t, ht => by
    rw [Stp.allA] at ht
    cases ht
  | s :: r, h, t, ht => by
    rw [Stp.NA] at h
    rw [Stp.allA, List.mem_append] at ht
    exact ht.elim (all_N h.1 t) (allA_N h.2 t)
end
theorem Fig.sub {ns M : List Str} {st : Int} {f : PyData} (h : Fig ns st f) (s : ∀ x ∈ ns, x ∈ M) : Fig M st f := by
  cases h with
  | left => exact .left
  | right => exact .right
  | mark m => exact .mark m
  | nm h => exact .nm (s _ h)
theorem plain_N {bd sd : List PyData} {ns M : List Str} {s : Stp} (h : PlainS bd sd ns s) (k : ∀ x ∈ ns, x ∈ M) : s.N M := by
  cases h with
  | mk h =>
    obtain ⟨t, fo, hw, _⟩ := h.ex
    rw [Stp.N]
    exact ⟨hw.elim (fun z => .inr z.1) (fun z => .inl z.1), _, h.fg.sub k⟩
theorem plains_NA {bd sd : List PyData} {ns M : List Str} {p : List Stp} (h : PlainL bd sd ns p) (k : ∀ x ∈ ns, x ∈ M) : Stp.NA M p := NA_iff.mpr fun s hs => plain_N (h s hs) k
theorem NA_app {M : List Str} {a b : List Stp} (h : Stp.NA M a) (g : Stp.NA M b) : Stp.NA M (a ++ b) := NA_iff.mpr fun s hs => (List.mem_append.mp hs).elim (NA_iff.mp h s) (NA_iff.mp g s)
theorem NA_one {M : List Str} {s : Stp} (h : s.N M) : Stp.NA M [s] := NA_iff.mpr fun t ht => List.mem_singleton.mp ht ▸ h
theorem NA_take {M : List Str} {a : List Stp} (k : Nat) (h : Stp.NA M a) : Stp.NA M (a.take k) := NA_iff.mpr fun s hs => NA_iff.mp h s (List.mem_of_mem_take hs)
theorem N_rd {M : List Str} {sc nm : Str} (h : nm ∈ M) : (Stp.rd sc nm).N M := by rw [Stp.N]; exact h
theorem N_tr {M : List Str} {a b : List Stp} (h : Stp.NA M a) (g : Stp.NA M b) : (Stp.tr a b).N M := by rw [Stp.N]; exact ⟨h, g⟩
theorem NA_cons {M : List Str} {s : Stp} {r : List Stp} (h : s.N M) (g : Stp.NA M r) : Stp.NA M (s :: r) := by rw [Stp.NA]; exact ⟨h, g⟩
theorem fnd_NA {bd sd : List PyData} {ns M : List Str} {n0 : Str} {k : Int} {p : List Stp} {fs : List Str} (h : Fnd bd sd ns n0 k p fs) (k1 : ∀ x ∈ ns, x ∈ M) (k2 : n0 ∈ M) : Stp.NA M p ∧ ∀ x ∈ fs, x ∈ M := by
  have k3 : ∀ x ∈ ns ++ [n0], x ∈ M := fun x hx => (List.mem_append.mp hx).elim (k1 x) fun z => List.mem_singleton.mp z ▸ k2
  cases h with
  | base h => exact ⟨plains_NA h k1, k1⟩
  | one h _ _ r g => exact ⟨NA_app (NA_app (plains_NA h k1) (NA_one (N_rd k2))) (plains_NA g k3), k3⟩
  | note h r => exact ⟨NA_cons (plain_N h k1) (NA_one (N_rd k2)), k3⟩
theorem wk_NA {bd sd : List PyData} {ns M : List Str} {n0 n1 : Str} {ss : List Stp} (k1 : ∀ x ∈ ns, x ∈ M) (k2 : n0 ∈ M) (k4 : n1 ∈ M) (h : Wk bd sd ns n0 n1 ss) : Stp.NA M ss := by
  have k3 : ∀ x ∈ ns ++ [n0], x ∈ M := fun x hx => (List.mem_append.mp hx).elim (k1 x) fun z => List.mem_singleton.mp z ▸ k2
  cases h with
  | flat h => exact NA_app (fnd_NA h k1 k2).1 (NA_one (N_rd k4))
  | deep1 h ha hb hc hq =>
    have f := fnd_NA h k1 k2
    have q := plains_NA hq f.2
    exact NA_app (NA_take 2 f.1) (NA_cons (N_tr (NA_cons (plain_N ha f.2) (NA_cons (N_tr (NA_one (plain_N hb f.2)) q) (NA_one (plain_N hc f.2)))) q) (NA_one (N_rd k4)))
  | deep2 h ha hb hc hq =>
    have f := fnd_NA h k1 k2
    have q := plains_NA hq f.2
    exact NA_app (NA_take 2 f.1) (NA_cons (N_tr (NA_one (plain_N ha f.2)) (NA_cons (plain_N ha f.2) (NA_cons (N_tr (NA_one (plain_N hb f.2)) q) (NA_one (plain_N hc f.2))))) (NA_one (N_rd k4)))
  | try2 h hf _ _ hg _ hq =>
    have f := fnd_NA h k1 k2
    exact NA_app (NA_app (NA_app f.1 (NA_one (N_tr (plains_NA hf f.2) (plains_NA hg f.2)))) (plains_NA hq f.2)) (NA_one (N_rd k4))
  | @try3 s sc s1 s2 f1 f2 e g q h h1 l0 l1 r1 he le hg lg r2 hq lq r =>
    have x := plains_NA h1 k1
    have x1 : Stp.NA M f1 := NA_iff.mpr fun s hs => NA_iff.mp x s (List.mem_append.mpr (.inl hs))
    have x2 : Stp.NA M f2 := NA_iff.mpr fun s hs => NA_iff.mp x s (List.mem_append.mpr (.inr hs))
    exact NA_app (NA_app (NA_app (NA_one (plain_N h k1)) (NA_one (N_tr (NA_app (NA_app (NA_app x1 (NA_one (N_rd k2))) x2) (plains_NA he k3)) (NA_app (plains_NA hg k1) (NA_one (N_rd k2)))))) (plains_NA hq k3)) (NA_one (N_rd k4))
/-! ### notes and operands -/
def rdOf : Stp → List Str
  | .rd _ nm => [nm]
  | _ => []
def fgOf : Stp → List PyData
  | .set _ _ _ f => [f]
  | _ => []
/-- the notes that are read -/
def rds (l : List Stp) : List Str := l.flatMap rdOf
/-- what stands as figures -/
def figs (l : List Stp) : List PyData := l.flatMap fgOf
theorem rds_snoc (l : List Stp) (s : Stp) : rds (l ++ [s]) = rds l ++ rdOf s := by
  unfold rds
  rw [List.flatMap_append, List.flatMap_cons, List.flatMap_nil, List.append_nil]
theorem figs_snoc (l : List Stp) (s : Stp) : figs (l ++ [s]) = figs l ++ fgOf s := by
  unfold figs
  rw [List.flatMap_append, List.flatMap_cons, List.flatMap_nil, List.append_nil]
def isTr : Stp → Bool
  | .tr _ _ => true
  | _ => false
theorem all_G : (∀ s : Stp, s.G → ∀ t ∈ s.all, t.G) ∧ (∀ a : List Stp, Stp.GA a → ∀ t ∈ Stp.allA a, t.G) := by
  refine ⟨fun s => ?_, fun a => ?_⟩
  · exact go1 s
  · exact go2 a
where
  go1 : ∀ s : Stp, s.G → ∀ t ∈ s.all, t.G
    | .set _ _ _ _, h, t, ht => by
      rw [Stp.all, List.mem_singleton] at ht
      exact ht ▸ h
    | .rd _ _, h, t, ht => by
      rw [Stp.all, List.mem_singleton] at ht
      exact ht ▸ h
    | .tr a b, h, t, ht => by
      rw [Stp.all, List.mem_cons, List.mem_append] at ht
      have h2 := h
      rw [Stp.G] at h2
      rcases ht with rfl | ht | ht
      · exact h
      · exact go2 a h2.1 t ht
      · exact go2 b h2.2 t ht
  go2 : ∀ a : List Stp, Stp.GA a → ∀ t ∈ Stp.allA a, t.G
    | [], _, t, ht => by
      rw [Stp.allA] at ht
      cases ht
    | s :: r, h, t, ht => by
      rw [Stp.GA] at h
      rw [Stp.allA, List.mem_append] at ht
      exact ht.elim (go1 s h.1 t) (go2 r h.2 t)
/-! ### one rising row without twins for a set of texts -/
def leS (a b : Str) : Prop := a.cps.toList ≤ b.cps.toList
theorem le_of_lt {a b : Str} (h : ltCps b.cps.toList a.cps.toList = false) : leS a b := by
  rw [ltCps_eq] at h
  exact List.not_lt.mp (of_decide_eq_false h)
theorem rising_all : ∀ {l : List Str} {p : Str}, risingS p l = true → (p :: l).Pairwise leS
  | [], _, _ => .cons (fun _ z => nomatch z) .nil
  | x :: r, p, h => by
    have h2 : (!ltCps x.cps.toList p.cps.toList && risingS x r) = true := h
    rw [Bool.and_eq_true, Bool.not_eq_true'] at h2
    have ih := rising_all h2.2
    have hx := le_of_lt h2.1
    refine .cons (fun y hy => ?_) ih
    rcases List.mem_cons.mp hy with rfl | hy
    · exact hx
    · exact List.le_trans hx ((List.pairwise_cons.mp ih).1 y hy)
theorem sorted_all {l : List Str} (h : sortedS l = true) : l.Pairwise leS := by
  cases l with
  | nil => exact .nil
  | cons x r => exact rising_all h
theorem sorted_one {l m : List Str} (hl : sortedS l = true) (nl : l.Nodup) (hm : sortedS m = true) (nm : m.Nodup) (e : ∀ x, x ∈ l ↔ x ∈ m) : l = m := by
  have p : l.Perm m := (List.perm_ext_iff_of_nodup nl nm).mpr e
  refine List.Perm.eq_of_pairwise (le := leS) (fun a b _ _ h g => ?_) (sorted_all hl) (sorted_all hm) p
  have z : a.cps.toList = b.cps.toList := List.le_antisymm h g
  exact TL.ext_tl z
/-- a working of which the steps are good, not deep, not many -/
structure Wg (K : PySem.W.Frag) (D : Addr) (H : Hp) (v : V) (a : List Stp) : Prop where
  d : Dt K D H v (.tuple (Stp.ds a))
  g : Stp.GA a
  e : Stp.depA a < 4
  c : Stp.cntA a ≤ 40
def spIsTry (K : PySem.W.Frag) : Sp := fun vs H Q _ => ∃ (D : Addr) (v : V) (s : Stp), vs = [v] ∧ Dt K D H v s.d ∧ s.G ∧ Q (.bl (isTr s)) H
def spCount (K : PySem.W.Frag) : Sp := fun vs H Q _ => ∃ (D : Addr) (v : V) (a : List Stp), vs = [v] ∧ Wg K D H v a ∧ ∀ H', Evl.Ex H H' → Q (.int ((Stp.cntA a : Nat) : Int)) H'
/-- the rising row of texts of which S holds, as a tuple -/
def spSorts (K : PySem.W.Frag) (S : List Stp → Str → Prop) : Sp := fun vs H Q _ => ∃ (D : Addr) (v : V) (a : List Stp), vs = [v] ∧ Wg K D H v a ∧
  ∀ p ys H', Evl.Ex H H' → SqT K H' p (ys.map V.str) → sortedS ys = true → ys.Nodup → (∀ x, x ∈ ys ↔ S (Stp.allA a) x) → Q (.ref p) H'
def spAllS (K : PySem.W.Frag) (n : Nat) : Sp := fun vs H Q _ => ∃ (D : Addr) (v : V) (a : List Stp) (HH : Hp), vs = [v] ∧ Evl.Ex HH H ∧ Dt K D HH v (.tuple (Stp.ds a)) ∧ Stp.GA a ∧ Stp.depA a < n ∧ Stp.cntA a ≤ 40 ∧
  ∀ l us H', Evl.Ex H H' → H l = none → H' l = some (.lst us) → DtA K D HH us (Stp.ds (Stp.allA a)) → Q (.ref l) H'
section
variable {X : Cx} (K : PySem.W.Frag)
theorem op_inK (h : X.K = K) : OpR X (compareOp .In) (rIn K false) := h ▸ op_in_seq
theorem op_notInK (h : X.K = K) : OpR X (compareOp .NotIn) (rIn K true) := h ▸ op_notIn_seq
theorem op_inDK (h : X.K = K) (hu : X.A.units + 65 < cLine) : OpR X (compareOp .In) (rInD K) := h ▸ op_inD hu
end
/-- a figure that is a text -/
def txtOf : PyData → List Str
  | .str x => [x]
  | _ => []
theorem low_name {x : Str} (h : Nm x) : dWord lowZ (.str x) = true := by
  have z : ∀ c, 97 ≤ c → c ≤ 122 → c ∈ lowZ.cps.toList := by
    intro c a b
    have e : lowZ.cps.toList = (List.range 26).map (· + 97) := by decide
    rw [e, List.mem_map]
    exact ⟨c - 97, List.mem_range.mpr (by omega), by omega⟩
  show (decide (1 ≤ x.cps.size) && (decide (x.cps.size ≤ 3) && x.cps.toList.all fun c => decide (c ∈ lowZ.cps.toList))) = true
  rw [decide_eq_true h.lo, decide_eq_true h.hi, Bool.true_and, Bool.true_and, List.all_eq_true]
  exact fun c hc => decide_eq_true (z c (h.all c hc).1 (h.all c hc).2)
/-- a figure that could be a name is one of those drawn -/
theorem fig_name {M : List Str} {st : Int} {x : Str} (h : Fig M st (.str x)) (w : dWord lowZ (.str x) = true) : x ∈ M := by
  cases h with
  | left => exact absurd w (by decide)
  | right => exact absurd w (by decide)
  | nm h => exact h
theorem figs_mem {l : List Stp} {f : PyData} : f ∈ figs l ↔ ∃ w sc st, Stp.set w sc st f ∈ l := by
  unfold figs
  rw [List.mem_flatMap]
  constructor
  · rintro ⟨s, hs, hf⟩
    cases s with
    | set w sc st g =>
      rw [fgOf, List.mem_singleton] at hf
      exact ⟨w, sc, st, hf ▸ hs⟩
    | rd _ _ => cases hf
    | tr _ _ => cases hf
  · rintro ⟨w, sc, st, hs⟩
    exact ⟨_, hs, List.mem_singleton.mpr rfl⟩
theorem inV_strs (x : Str) (ns : List Str) : inV (.str x) (ns.map V.str) = decide (x ∈ ns) := by
  unfold inV
  rw [List.any_map]
  induction ns with
  | nil => rfl
  | cons y r ih =>
    rw [List.any_cons, ih]
    show ((y == x) || decide (x ∈ r)) = _
    by_cases e : x = y
    · subst e
      simp
    · have : (y == x) = false := beq_eq_false_iff_ne.mpr fun z => e z.symm
      rw [this, Bool.false_or]
      simp [e]
theorem gfig_sh {f : PyData} (h : GFig f) : shD f = true := by
  cases h with
  | @s x h =>
    show decide (x.cps.size ≤ 1000) = true
    exact decide_eq_true (Nat.le_trans h (by decide))
  | m => rfl
theorem figs_G {a : List Stp} (h : Stp.GA a) {f : PyData} (hf : f ∈ figs (Stp.allA a)) : GFig f := by
  obtain ⟨w, sc, st, hs⟩ := figs_mem.mp hf
  have g := all_G.2 a h _ hs
  rw [Stp.G] at g
  exact g.2.2.2.2
theorem szd_nm {x : Str} (h : Nm x) : Szd (.str x) 3 0 := by
  refine ⟨?_, ?_, ?_, ?_⟩
  · simp only [PyData.showable]
  · simp only [PyData.leavesShort, List.all_eq_true, decide_eq_true_eq]
    exact fun c hc => nm_low h c hc
  · simp only [PyData.weight]
    exact h.hi
  · simp only [PyData.depth]
    exact Nat.le_refl _
theorem szd_tupA {ds : List PyData} {n m : Nat} (h : ∀ d ∈ ds, Szd d n m) : Szd (.tuple ds) (ds.length * (n + 1)) (m + 1) := by
  have key : PyData.showableAll ds = true ∧ PyData.leavesShortAll 1001 ds = true ∧ PyData.weightAll ds ≤ ds.length * (n + 1) ∧ PyData.depthAll ds ≤ m := by
    induction ds with
    | nil => simp [PyData.showableAll, PyData.leavesShortAll, PyData.weightAll, PyData.depthAll]
    | cons d r ih =>
      obtain ⟨a, b, c, e⟩ := ih fun x hx => h x (List.mem_cons_of_mem _ hx)
      have g := h d (List.mem_cons_self ..)
      refine ⟨?_, ?_, ?_, ?_⟩
      · simp only [PyData.showableAll, g.sh, a, Bool.and_self]
      · simp only [PyData.leavesShortAll, g.lv, b, Bool.and_self]
      · simp only [PyData.weightAll]
        have := g.wt
        have e2 : (d :: r).length * (n + 1) = r.length * (n + 1) + (n + 1) := by rw [List.length_cons, Nat.succ_mul]
        omega
      · simp only [PyData.depthAll]
        have := g.dp
        omega
  refine ⟨?_, ?_, ?_, ?_⟩
  · simp only [PyData.showable, key.1]
  · simp only [PyData.leavesShort, key.2.1]
  · simp only [PyData.weight]
    exact key.2.2.1
  · simp only [PyData.depth]
    have := key.2.2.2
    omega
theorem szd_names {ns : List Str} (h : ∀ x ∈ ns, Nm x) (l : ns.length ≤ 40) : Szd (.tuple (ns.map PyData.str)) 160 1 := (szd_tupA (n := 3) (m := 0) (by
  intro d hd
  obtain ⟨x, hx, rfl⟩ := List.mem_map.mp hd
  exact szd_nm (h x hx))).mono (by rw [List.length_map]; omega) (Nat.le_refl _)
theorem nd_strs (ns : List Str) : PyData.hasDictAll (ns.map PyData.str) = false := by
  induction ns with
  | nil => rfl
  | cons x r ih =>
    rw [List.map_cons, PyData.hasDictAll, ih]
    rfl
theorem dtA_strs {K : PySem.W.Frag} {D : Addr} {H : Hp} : ∀ ns : List Str, DtA K D H (ns.map V.str) (ns.map PyData.str)
  | [] => .nil
  | x :: r => .cons (.str x) (dtA_strs r)
theorem rds_le : ∀ l : List Stp, (rds l).length ≤ l.length
  | [] => Nat.le_refl _
  | s :: r => by
    have e : rds (s :: r) = rdOf s ++ rds r := rfl
    have h : (rdOf s).length ≤ 1 := by
      cases s <;> first | exact Nat.zero_le _ | exact Nat.le_refl _
    rw [e, List.length_append, List.length_cons]
    have := rds_le r
    omega
theorem rds_N {M : List Str} {l : List Stp} (h : ∀ s ∈ l, s.N M) : ∀ x ∈ rds l, x ∈ M := by
  intro x hx
  unfold rds at hx
  rw [List.mem_flatMap] at hx
  obtain ⟨s, hs, hx⟩ := hx
  have g := h s hs
  cases s with
  | set _ _ _ _ => cases hx
  | rd sc nm =>
    rw [rdOf, List.mem_singleton] at hx
    rw [Stp.N] at g
    exact hx ▸ g
  | tr _ _ => cases hx
theorem Wg.ex {K : PySem.W.Frag} {D : Addr} {H H' : Hp} {v : V} {a : List Stp} (h : Wg K D H v a) (e : Evl.Ex H H') : Wg K D H' v a := ⟨h.d.ex e, h.g, h.e, h.c⟩
theorem strOk_low {x : Str} (h : Nm x) : PyData.strOk x = true := by
  unfold PyData.strOk
  rw [← Array.all_toList, List.all_eq_true]
  intro c hc
  have := (h.all c hc).2
  exact decide_eq_true (by omega)
theorem shaped_names {ns : List Str} (h : ∀ x ∈ ns, Nm x) : SeqAt.shaped (.list (ns.map PyData.str)) = true := by
  have a : PyData.canLayAll0 (ns.map PyData.str) = true := by
    induction ns with
    | nil => rfl
    | cons x r ih =>
      simp only [List.map_cons, PyData.canLayAll0, PyData.canLay0, strOk_low (h x (List.mem_cons_self ..)), ih fun y hy => h y (List.mem_cons_of_mem _ hy), Bool.and_self]
  have b : PyData.depthAll (ns.map PyData.str) = 0 := by
    clear a h
    induction ns with
    | nil => rfl
    | cons x r ih =>
      simp only [List.map_cons, PyData.depthAll, PyData.depth, ih, Nat.max_self]
  show (PyData.canLay0 (.list (ns.map PyData.str)) && decide ((PyData.list (ns.map PyData.str)).depth ≤ 64)) = true
  simp only [PyData.canLay0, PyData.depth, a, b]
  rfl
theorem shaped_str {x : Str} (h : PyData.strOk x = true) : SeqAt.shaped (.str x) = true := by
  show (PyData.canLay0 (.str x) && decide ((PyData.str x).depth ≤ 64)) = true
  simp only [PyData.canLay0, PyData.depth, h]
  rfl
theorem shaped_fig {M : List Str} (hm : ∀ x ∈ M, Nm x) {st : Int} {f : PyData} (h : Fig M st f) : SeqAt.shaped f = true := by
  cases h with
  | left => exact shaped_str (by decide +kernel)
  | right => exact shaped_str (by decide +kernel)
  | mark m => rfl
  | nm h => exact shaped_str (strOk_low (hm _ h))
/-- whether a figure is one of the names -/
theorem any_fig {ns : List Str} (hn : ∀ x ∈ ns, Nm x) {st : Int} {f : PyData} (h : Fig ns st f) : ((ns.map PyData.str).any fun z => PyData.eqv z f) = true ↔ ∃ x, f = .str x ∧ x ∈ ns := by
  rw [List.any_map, List.any_eq_true]
  constructor
  · rintro ⟨y, hy, e⟩
    cases h with
    | left => exact ⟨y, by
        have e2 : (y == ("left" : Str)) = true := e
        rw [eq_of_beq e2], hy⟩
    | right => exact ⟨y, by
        have e2 : (y == ("right" : Str)) = true := e
        rw [eq_of_beq e2], hy⟩
    | mark m => exact absurd e Bool.false_ne_true
    | @nm _ x h => exact ⟨x, rfl, h⟩
  · rintro ⟨x, rfl, hx⟩
    exact ⟨x, hx, by show (x == x) = true; exact beq_self_eq_true x⟩
theorem fig_nd {M : List Str} {st : Int} {f : PyData} (h : Fig M st f) : f.hasDict = false := by
  cases h <;> rfl
theorem units65 {k : Nat} {A : Around} (r : Room k A) : A.units + 65 < cLine := by
  have := r.un
  omega
end Qj
namespace Qj
open PySem PySem.Spec PyProof.Rows L2
/-! ### x in an instance whose class says what it holds -/
/-- sp is the promise of its own method, that answers with a truth value -/
def rInOwn (C : Addr) (dvs : List V) (sp : Sp) (E : XK) (neg : Bool) : R2 := fun x y H Q => ∃ (a dx : Addr) (fs : List (Str × V)), y = .ref a ∧ H a = some (.ins C dx fs) ∧ sp ([V.ref a, x] ++ dvs) H (fun r H' => ∃ b, r = .bl b ∧ Q (.bl (if neg = true then !b else b)) H') E
section
variable {X : Cx} {CX : CXT} {C f : Addr} {k : Nat} {fd : FuncData} {ps : List Str} {ds : List Value} {dvs : List V} {sp : Sp} {E : XK}
theorem op_inOwn (hm : Meth X.K C "__contains__" f) (F : FnOk X.prog X.w X.K X.mg X.base CX k f fd ps sp) (hr : Room k X.A) (hb : Binds X.K fd ps ds) (hd : Vals dvs ds) (hx : Passes CX X E) : OpR X (compareOp .In) (rInOwn C dvs sp E false) := by
  intro pins s σ H x y v u Q I rx ry h
  obtain ⟨a, dx, fs, rfl, ha, q⟩ := h
  cases ry
  obtain ⟨mA, O, r, _, _, _⟩ := ins_get I.hok ha
  obtain ⟨od, J, _⟩ := O.look
  obtain ⟨mm, fr⟩ := I.fr
  refine PySem.W.in_K fr I.mod.kin J hm.at_ hm.fn (thn (run_fn (us := [.ref a, v]) (vs := [.ref a, x]) F hr hb hd hx I (.cons rfl (.cons rx .nil)) q) fun z s' ⟨r, H', I', rz, b, e, q'⟩ => ?_)
  subst e
  obtain rfl : z = .bool b := rz
  exact wpAny_pure ⟨.bl b, H', I', rfl, q'⟩
theorem op_notInOwn (hm : Meth X.K C "__contains__" f) (F : FnOk X.prog X.w X.K X.mg X.base CX k f fd ps sp) (hr : Room k X.A) (hb : Binds X.K fd ps ds) (hd : Vals dvs ds) (hx : Passes CX X E) : OpR X (compareOp .NotIn) (rInOwn C dvs sp E true) := by
  intro pins s σ H x y v u Q I rx ry h
  obtain ⟨a, dx, fs, rfl, ha, q⟩ := h
  cases ry
  obtain ⟨mA, O, r, _, _, _⟩ := ins_get I.hok ha
  obtain ⟨od, J, _⟩ := O.look
  obtain ⟨mm, fr⟩ := I.fr
  refine PySem.W.notIn_K fr I.mod.kin J hm.at_ hm.fn (thn (run_fn (us := [.ref a, v]) (vs := [.ref a, x]) F hr hb hd hx I (.cons rfl (.cons rx .nil)) q) fun z s' ⟨r, H', I', rz, b, e, q'⟩ => ?_)
  subst e
  obtain rfl : z = .bool b := rz
  exact wpAny_pure ⟨.bl (!b), H', I', rfl, q'⟩
end
end Qj
namespace Qj
open PySem PySem.Spec PyProof.Rows L2
/-! ### fresh steps at the place of the step with a number -/
mutual
def Stp.put (s : Stp) (k : Int) (fr : List Stp) : List Stp :=
  if k = 0 then fr else if 0 < k ∧ k < (s.cnt : Int) then (match s with
    | .tr a b => if k ≤ (Stp.cntA a : Int) then [.tr (Stp.putA a (k - 1) fr) b] else [.tr a (Stp.putA b (k - 1 - (Stp.cntA a : Int)) fr)]
    | s => [s]) else [s]
def Stp.putA (l : List Stp) (k : Int) (fr : List Stp) : List Stp :=
  match l with
  | [] => []
  | s :: r => s.put k fr ++ Stp.putA r (k - (s.cnt : Int)) fr
end
theorem putA_snoc (fr : List Stp) : ∀ (a : List Stp) (s : Stp) (k : Int), Stp.putA (a ++ [s]) k fr = Stp.putA a k fr ++ s.put (k - (Stp.cntA a : Int)) fr
  | [], s, k => by
    rw [List.nil_append, Stp.putA, Stp.putA, Stp.putA, Stp.cntA, List.append_nil, List.nil_append]
    congr 1
    omega
  | x :: a, s, k => by
    rw [List.cons_append, Stp.putA, putA_snoc fr a s, Stp.putA, Stp.cntA, List.append_assoc]
    congr 3
    omega
theorem cntA_snoc : ∀ (a : List Stp) (s : Stp), Stp.cntA (a ++ [s]) = Stp.cntA a + s.cnt
  | [], s => by rw [List.nil_append, Stp.cntA, Stp.cntA, Stp.cntA]; omega
  | x :: a, s => by rw [List.cons_append, Stp.cntA, cntA_snoc a s, Stp.cntA]; omega
def spSizeN (K : PySem.W.Frag) (n : Nat) : Sp := fun vs H Q _ => ∃ (D : Addr) (v : V) (a : List Stp), vs = [v] ∧ Dt K D H v (.tuple (Stp.ds a)) ∧ Stp.GA a ∧ Stp.depA a < n ∧ Stp.cntA a ≤ 40 ∧ Q (.int (Stp.cntA a : Int)) H
def spPutN (K : PySem.W.Frag) (n : Nat) : Sp := fun vs H Q _ => ∃ (D : Addr) (v : V) (a : List Stp) (k : Int) (fv : V) (fr : List Stp), vs = [v, .int k, fv] ∧ Dt K D H v (.tuple (Stp.ds a)) ∧ Dt K D H fv (.tuple (Stp.ds fr)) ∧ fr.length ≤ 20 ∧ Stp.GA a ∧ Stp.depA a < n ∧ Stp.cntA a ≤ 40 ∧ k.natAbs ≤ 1000 ∧
  ∀ u H', Evl.Ex H H' → Dt K D H' u (.tuple (Stp.ds (Stp.putA a k fr))) → Q u H'
/-- whether the rule has a scale of this name -/
def spHas (K : PySem.W.Frag) (C : Addr) : Sp := fun vs H Q _ => ∃ (D r : Addr) (bd sd : List PyData) (nm : Str), vs = [.ref r, .str nm] ∧ RuleAt K C D H r bd sd ∧ RowOk bd sd ∧ ∀ H', Evl.Ex H H' → Q (.bl (decide (nm ∈ (bd ++ sd).map nmD))) H'
/-- whether it slides -/
def spSlides (K : PySem.W.Frag) (C : Addr) : Sp := fun vs H Q _ => ∃ (D r : Addr) (bd sd : List PyData) (nm : Str), vs = [.ref r, .str nm] ∧ RuleAt K C D H r bd sd ∧ RowOk bd sd ∧ nm ∈ (bd ++ sd).map nmD ∧ ∀ H', Evl.Ex H H' → Q (.bl (decide (nm ∈ sd.map nmD))) H'
def spStretches (K : PySem.W.Frag) (C : Addr) : Sp := fun vs H Q _ => ∃ (D r : Addr) (bd sd : List PyData) (i : Nat) (nm : Str) (t : Int) (f : PyData), vs = [.ref r, .str nm] ∧ RuleAt K C D H r bd sd ∧ RowOk bd sd ∧ (bd ++ sd)[i]? = some (.tuple [.str nm, .int t, f]) ∧
  ∀ H', Evl.Ex H H' → Q (.int (ab t)) H'
/-- why a step does not fit the rule's rows -/
def misW (bd sd : List PyData) : Stp → Option Str
  | .tr _ _ => none
  | .rd sc _ => if sc ∈ (bd ++ sd).map nmD then none else some "scale"
  | .set w sc st _ => match lookS (bd ++ sd) (.str sc) with
    | none => some "scale"
    | some (t, _) => if w = "slide" ∧ sc ∉ sd.map nmD then some "slide" else if ab t ≤ st then some "stretch" else none
def wOr : Option Str → V
  | none => .non
  | some x => .str x
def spMisW (K : PySem.W.Frag) (C : Addr) : Sp := fun vs H Q _ => ∃ (D r : Addr) (bd sd : List PyData) (u : V) (sp : Stp), vs = [.ref r, u] ∧ RuleAt K C D H r bd sd ∧ Rows bd sd ∧ Dt K D H u sp.d ∧ sp.G ∧ ∀ H', Evl.Ex H H' → Q (wOr (misW bd sd sp)) H'
theorem look_name {ds : List PyData} (sc : ∀ d ∈ ds, Sc d) (nd : (ds.map nmD).Nodup) (nm : Str) : (nm ∉ ds.map nmD ∧ lookS ds (.str nm) = none) ∨ (nm ∈ ds.map nmD ∧ ∃ (i : Nat) (t : Int) (f : PyData), ds[i]? = some (.tuple [.str nm, .int t, f]) ∧ lookS ds (.str nm) = some (t, f)) := by
  by_cases h : nm ∈ ds.map nmD
  · obtain ⟨d, hd, e⟩ := List.mem_map.mp h
    obtain ⟨i, hi⟩ := List.mem_iff_getElem?.mp hd
    obtain ⟨n2, t2, f2, rfl, _⟩ := sc d hd
    obtain rfl : n2 = nm := e
    exact .inr ⟨h, i, t2, _, hi, lookS_at sc nd hi⟩
  · refine .inl ⟨h, lookS_no sc fun x hx => ?_⟩
    rw [eqv_str]
    exact decide_eq_false fun e => h (List.mem_map.mpr ⟨x, hx, e⟩)
/-- the first step that does not fit, and why -/
def misF (bd sd : List PyData) : List Stp → Nat → Option (Nat × Str)
  | [], _ => none
  | s :: r, i => match misW bd sd s with
    | some x => some (i, x)
    | none => misF bd sd r (i + 1)
def misD : Option (Nat × Str) → PyData
  | none => .none
  | some (i, x) => .tuple [.int i, .str x]
theorem misF_at {bd sd : List PyData} {x : Str} : ∀ {l : List Stp} {i k : Nat} {s : Stp}, (∀ j t, j < i → l[j]? = some t → misW bd sd t = none) → l[i]? = some s → misW bd sd s = some x → misF bd sd l k = some (k + i, x)
  | [], i, k, s, _, h, _ => by cases h
  | t :: r, 0, k, s, _, h, g => by
    cases h
    rw [misF, g]
    rfl
  | t :: r, i + 1, k, s, a, h, g => by
    rw [misF, a 0 t (Nat.succ_pos i) rfl]
    show misF bd sd r (k + 1) = _
    rw [misF_at (i := i) (fun j u hj hu => a (j + 1) u (Nat.succ_lt_succ hj) hu) h g]
    congr 2
    omega
theorem misF_no {bd sd : List PyData} : ∀ {l : List Stp} {k : Nat}, (∀ t ∈ l, misW bd sd t = none) → misF bd sd l k = none
  | [], _, _ => rfl
  | t :: r, k, a => by
    rw [misF, a t (List.mem_cons_self ..)]
    exact misF_no fun u hu => a u (List.mem_cons_of_mem _ hu)
def spMisfit (K : PySem.W.Frag) (C : Addr) : Sp := fun vs H Q _ => ∃ (D r : Addr) (bd sd : List PyData) (v : V) (a : List Stp), vs = [.ref r, v] ∧ RuleAt K C D H r bd sd ∧ Rows bd sd ∧ Wg K D H v a ∧ ∀ u H', Evl.Ex H H' → Dt K D H' u (misD (misF bd sd (Stp.allA a) 0)) → Q u H'
/-- the scale a step names -/
def ScN : Stp → Str
  | .set _ sc _ _ => sc
  | .rd sc _ => sc
  | .tr _ _ => Str.empty
/-- the law's own word for it -/
def spWordW (K : PySem.W.Frag) : Sp := fun vs H Q _ => ∃ (D : Addr) (v u : V) (bd sd : List PyData) (sp : Stp), vs = [v, u] ∧ ScAt K D H v bd sd ∧ Dt K D H u sp.d ∧ sp.G ∧ isTr sp = false ∧ ∀ H', Evl.Ex H H' → Q (wOr (misW bd sd sp)) H'
theorem misW_hit {bd sd : List PyData} (R : Rows bd sd) {i : Nat} {nm : Str} {t : Int} {f : PyData} (hi : (bd ++ sd)[i]? = some (.tuple [.str nm, .int t, f])) (w : Str) (st : Int) (g : PyData) :
    misW bd sd (.set w nm st g) = if w = "slide" ∧ nm ∈ bd.map nmD then some ("slide" : Str) else if ab t ≤ st then some ("stretch" : Str) else none := by
  have lk := lookS_at R.sc R.r.nd hi
  have key : (nm ∉ sd.map nmD) ↔ nm ∈ bd.map nmD := by
    have nd := R.r.nd
    rw [List.map_append, List.nodup_append] at nd
    have m : nm ∈ (bd ++ sd).map nmD := List.mem_map.mpr ⟨_, List.mem_iff_getElem?.mpr ⟨i, hi⟩, rfl⟩
    rw [List.map_append, List.mem_append] at m
    exact ⟨fun z => m.resolve_right z, fun z y => nd.2.2 _ z _ y rfl⟩
  show (match lookS (bd ++ sd) (.str nm) with | none => some ("scale" : Str) | some (t, _) => if w = "slide" ∧ nm ∉ sd.map nmD then some ("slide" : Str) else if ab t ≤ st then some ("stretch" : Str) else none) = _
  rw [lk]
  simp only [key]
theorem misW_rd {bd sd : List PyData} {i : Nat} {nm x : Str} {t : Int} {f : PyData} (hi : (bd ++ sd)[i]? = some (.tuple [.str nm, .int t, f])) : misW bd sd (.rd nm x) = none :=
  if_pos (List.mem_map.mpr ⟨_, List.mem_iff_getElem?.mpr ⟨i, hi⟩, rfl⟩)
theorem misW_no {bd sd : List PyData} (R : Rows bd sd) {sp : Stp} (nt : isTr sp = false) (no : ∀ (j : Nat) (nm : Str) (t : Int) (f : PyData), (bd ++ sd)[j]? = some (PyData.tuple [.str nm, .int t, f]) → nm ≠ ScN sp) : misW bd sd sp = some ("scale" : Str) := by
  rcases look_name R.sc R.r.nd (ScN sp) with ⟨hin, lk⟩ | ⟨hin, i, t, f, hi, lk⟩
  · cases sp with
    | set w sc st f =>
      show (match lookS (bd ++ sd) (.str sc) with | none => some ("scale" : Str) | some (t, _) => if w = "slide" ∧ sc ∉ sd.map nmD then some ("slide" : Str) else if ab t ≤ st then some ("stretch" : Str) else none) = _
      have lk2 : lookS (bd ++ sd) (.str sc) = none := lk
      rw [lk2]
    | rd sc nm => exact if_neg hin
    | tr b c => cases nt
  · exact absurd rfl (no i _ t f hi)
/-- x in a tuple, both of any depth -/
def rInTup (K : PySem.W.Frag) : R2 := fun x y H Q => ∃ d ds, Dp K H x d ∧ Dp K H y (.tuple ds) ∧ SeqAt.shaped d = true ∧ SeqAt.shaped (.tuple ds) = true ∧ Q (.bl (ds.any fun z => PyData.eqv z d)) H
theorem op_inTup {X : Cx} (K : PySem.W.Frag) (hK : X.K = K) (hu : X.A.units + 65 < cLine) : OpR X (compareOp .In) (rInTup K) := by
  subst hK
  intro pins s σ H x y v u Q I rx ry h
  obtain ⟨d, ds, dx, dy, sx, sy, q⟩ := h
  obtain ⟨a1, e1⟩ := Dp.reads I d x v dx rx
  obtain ⟨a2, e2⟩ := Dp.reads I (.tuple ds) y u dy ry
  exact SeqAt.in_tuple_reads e2 e1 (SeqAt.canLay_of_shaped sy) (SeqAt.canLay_of_shaped sx) (room_in_shaped sx hu) ⟨.bl _, H, I, rfl, q⟩
/-- a step of the same kind, its scale drawn anew -/
def spChanged (K : PySem.W.Frag) : Sp := fun vs H Q _ => ∃ (D : Addr) (v u : V) (bd sd : List PyData) (sp : Stp) (M : List Str), vs = [.ref D, v, u] ∧ DeckAt H D ∧ ScAt K D H v bd sd ∧ Dt K D H u sp.d ∧ sp.G ∧ isTr sp = false ∧ (∀ x ∈ M, Nm x) ∧ sp.N M ∧
  ∀ (w : V) (sp' : Stp) (H' : Hp), Dt K D H' w sp'.d → sp'.G → isTr sp' = false → sp'.N M → Bu D H H' → DeckAt H' D → Q w H'
/-! ### what every line, slide and read step of a drawn working has -/
mutual
def Stp.P (p : Stp → Prop) : Stp → Prop
  | .set w sc st f => p (.set w sc st f)
  | .rd sc nm => p (.rd sc nm)
  | .tr a b => Stp.PA p a ∧ Stp.PA p b
def Stp.PA (p : Stp → Prop) : List Stp → Prop
  | [] => True
  | s :: r => s.P p ∧ Stp.PA p r
end
theorem PA_iff {p : Stp → Prop} : ∀ {a : List Stp}, Stp.PA p a ↔ ∀ s ∈ a, s.P p
  | [] => by rw [Stp.PA]; simp
  | s :: r => by rw [Stp.PA, PA_iff]; simp
mutual
theorem all_P {p : Stp → Prop} (ht : ∀ a b, p (.tr a b)) : ∀ {s : Stp}, s.P p → ∀ t ∈ s.all, p t
  | .set _ _ _ _, h, t, hm => by
    rw [Stp.all, List.mem_singleton] at hm
    rw [Stp.P] at h
    exact hm ▸ h
  | .rd _ _, h, t, hm => by
    rw [Stp.all, List.mem_singleton] at hm
    rw [Stp.P] at h
    exact hm ▸ h
  | .tr a b, h, t, hm => by
    rw [Stp.all, List.mem_cons, List.mem_append] at hm
    rw [Stp.P] at h
    rcases hm with rfl | hm | hm
    · exact ht a b
    · exact allA_P ht h.1 t hm
    · exact allA_P ht h.2 t hm
theorem allA_P {p : Stp → Prop} (ht : ∀ a b, p (.tr a b)) : ∀ {a : List Stp}, Stp.PA p a → ∀ t ∈ Stp.allA a, p t
  | [], _, t, hm => by
    rw [Stp.allA] at hm
    cases hm
  | s :: r, h, t, hm => by
    rw [Stp.PA] at h
    rw [Stp.allA, List.mem_append] at hm
    exact hm.elim (all_P ht h.1 t) (allA_P ht h.2 t)
end
section
variable {bd sd : List PyData} {p : Stp → Prop} (h1 : ∀ ns s, PlainS bd sd ns s → p s) (h2 : ∀ sc nm, RdOk bd sd sc → p (.rd sc nm))
include h1 in
theorem plain_P {ns : List Str} {s : Stp} (h : PlainS bd sd ns s) : s.P p := by
  have z := h1 ns s h
  cases h with
  | mk h =>
    rw [Stp.P]
    exact z
include h1 in
theorem plains_P {ns : List Str} {l : List Stp} (h : PlainL bd sd ns l) : Stp.PA p l := PA_iff.mpr fun s hs => plain_P h1 (h s hs)
include h2 in
theorem rd_P {sc nm : Str} (r : RdOk bd sd sc) : (Stp.rd sc nm).P p := by
  rw [Stp.P]
  exact h2 _ _ r
theorem PA_app {a b : List Stp} (h : Stp.PA p a) (g : Stp.PA p b) : Stp.PA p (a ++ b) := PA_iff.mpr fun s hs => (List.mem_append.mp hs).elim (PA_iff.mp h s) (PA_iff.mp g s)
theorem PA_one {s : Stp} (h : s.P p) : Stp.PA p [s] := PA_iff.mpr fun t ht => List.mem_singleton.mp ht ▸ h
theorem PA_cons {s : Stp} {r : List Stp} (h : s.P p) (g : Stp.PA p r) : Stp.PA p (s :: r) := by rw [Stp.PA]; exact ⟨h, g⟩
theorem PA_take {a : List Stp} (k : Nat) (h : Stp.PA p a) : Stp.PA p (a.take k) := PA_iff.mpr fun s hs => PA_iff.mp h s (List.mem_of_mem_take hs)
theorem P_tr {a b : List Stp} (h : Stp.PA p a) (g : Stp.PA p b) : (Stp.tr a b).P p := by rw [Stp.P]; exact ⟨h, g⟩
include h1 h2
theorem fnd_PA {ns : List Str} {n0 : Str} {k : Int} {l : List Stp} {fs : List Str} (h : Fnd bd sd ns n0 k l fs) : Stp.PA p l := by
  cases h with
  | base h => exact plains_P h1 h
  | one h _ _ r g => exact PA_app (PA_app (plains_P h1 h) (PA_one (rd_P h2 r))) (plains_P h1 g)
  | note h r => exact PA_cons (plain_P h1 h) (PA_one (rd_P h2 r))
theorem wk_PA {ns : List Str} {n0 n1 : Str} {ss : List Stp} (h : Wk bd sd ns n0 n1 ss) : Stp.PA p ss := by
  cases h with
  | flat h _ r => exact PA_app (fnd_PA h1 h2 h) (PA_one (rd_P h2 r))
  | deep1 h ha hb hc hq _ r =>
    have q := plains_P h1 hq
    exact PA_app (PA_take 2 (fnd_PA h1 h2 h)) (PA_cons (P_tr (PA_cons (plain_P h1 ha) (PA_cons (P_tr (PA_one (plain_P h1 hb)) q) (PA_one (plain_P h1 hc)))) q) (PA_one (rd_P h2 r)))
  | deep2 h ha hb hc hq _ r =>
    have q := plains_P h1 hq
    exact PA_app (PA_take 2 (fnd_PA h1 h2 h)) (PA_cons (P_tr (PA_one (plain_P h1 ha)) (PA_cons (plain_P h1 ha) (PA_cons (P_tr (PA_one (plain_P h1 hb)) q) (PA_one (plain_P h1 hc))))) (PA_one (rd_P h2 r)))
  | try2 h hf _ _ hg _ hq _ r => exact PA_app (PA_app (PA_app (fnd_PA h1 h2 h) (PA_one (P_tr (plains_P h1 hf) (plains_P h1 hg)))) (plains_P h1 hq)) (PA_one (rd_P h2 r))
  | @try3 s sc s1 s2 f1 f2 e g q h k1 l0 l1 r1 he le hg lg r2 hq lq r =>
    have x := plains_P h1 k1
    have x1 : Stp.PA p f1 := PA_iff.mpr fun s hs => PA_iff.mp x s (List.mem_append.mpr (.inl hs))
    have x2 : Stp.PA p f2 := PA_iff.mpr fun s hs => PA_iff.mp x s (List.mem_append.mpr (.inr hs))
    exact PA_app (PA_app (PA_app (PA_one (plain_P h1 h)) (PA_one (P_tr (PA_app (PA_app (PA_app x1 (PA_one (rd_P h2 r1))) x2) (plains_P h1 he)) (PA_app (plains_P h1 hg) (PA_one (rd_P h2 r2)))))) (plains_P h1 hq)) (PA_one (rd_P h2 r))
end
/-- a drawn working fits the rows it was drawn over -/
theorem wk_fits {bd sd : List PyData} (R : Rows bd sd) {ns : List Str} {n0 n1 : Str} {ss : List Stp} (h : Wk bd sd ns n0 n1 ss) : misF bd sd (Stp.allA ss) 0 = none := by
  refine misF_no (allA_P (p := fun s => misW bd sd s = none) (fun a b => rfl) (wk_PA (fun ns s hs => ?_) (fun sc nm r => ?_) h))
  · cases hs with
    | @mk w sc st f k =>
      obtain ⟨t, fo, hw, lt, _⟩ := k.ex
      have hb : .tuple [.str sc, .int t, frD fo] ∈ bd ++ sd := hw.elim (fun z => List.mem_append_right _ z.2) (fun z => z.2)
      obtain ⟨i, hi⟩ := List.mem_iff_getElem?.mp hb
      have nb : ¬ (w = "slide" ∧ sc ∈ bd.map nmD) := fun z => by
        rcases hw with y | y
        · have nd := R.r.nd
          rw [List.map_append, List.nodup_append] at nd
          exact nd.2.2 _ z.2 _ (List.mem_map.mpr ⟨_, y.2, rfl⟩) rfl
        · rw [y.1] at z
          exact absurd z.1 (by decide)
      rw [misW_hit R hi, if_neg nb, if_neg (by omega)]
  · obtain ⟨t, fo, hm⟩ := r.ex
    obtain ⟨i, hi⟩ := List.mem_iff_getElem?.mp hm
    exact misW_rd hi
end Qj
namespace Qj
open PySem PySem.Spec PyProof.Rows L2
/-- the targets of a comprehension's tuple, K given -/
theorem pg_tupK {X : Cx} (K : PySem.W.Frag) (hK : X.K = K) {es : List Expr} {k : Nat} {p : PySem.Pos} {t : TGs} {n : Nat} (hc : X.calm = true) (h : PGs X es t)
    (hn : (assignEach es X.env).length = n := by rfl) (hst : (assignEach es X.env).findIdx? (·.1) = none := by rfl) : PG X (.Tuple es k p) (gTup K n t) := hK ▸ pg_tup hc h hn hst
/-! ### one line, slide or read step in the place of a step -/
/-- a list with not more steps, not deeper, as many at its top -/
structure PutOk (M : List Str) (a b : List Stp) : Prop where
  g : Stp.GA b
  n : Stp.NA M b
  c : Stp.cntA b ≤ Stp.cntA a
  d : Stp.depA b ≤ Stp.depA a
  l : b.length = a.length
theorem GA_one {s : Stp} (h : s.G) : Stp.GA [s] := by
  rw [Stp.GA, Stp.GA]
  exact ⟨h, trivial⟩
theorem GA_two {a b : List Stp} (h : Stp.GA a) (g : Stp.GA b) : Stp.GA (a ++ b) := by
  induction a with
  | nil => exact g
  | cons s r ih =>
    rw [Stp.GA] at h
    show Stp.GA (s :: (r ++ b))
    rw [Stp.GA]
    exact ⟨h.1, ih h.2⟩
theorem depA_two : ∀ {a b : List Stp}, Stp.depA (a ++ b) = max (Stp.depA a) (Stp.depA b)
  | [], b => by rw [List.nil_append, Stp.depA]; omega
  | s :: r, b => by
    rw [List.cons_append, Stp.depA, Stp.depA, depA_two]
    omega
theorem cntA_two : ∀ {a b : List Stp}, Stp.cntA (a ++ b) = Stp.cntA a + Stp.cntA b
  | [], b => by rw [List.nil_append, Stp.cntA]; omega
  | s :: r, b => by
    rw [List.cons_append, Stp.cntA, Stp.cntA, cntA_two]
    omega
theorem PutOk.one {M : List Str} {s t : Stp} (g : t.G) (n : t.N M) (c : t.cnt ≤ s.cnt) (d : t.dep ≤ s.dep) : PutOk M [s] [t] := by
  refine ⟨GA_one g, NA_one n, ?_, ?_, rfl⟩
  · rw [Stp.cntA, Stp.cntA, Stp.cntA, Stp.cntA]
    omega
  · rw [Stp.depA, Stp.depA, Stp.depA, Stp.depA]
    omega
theorem PutOk.app {M : List Str} {a b c d : List Stp} (h : PutOk M a b) (g : PutOk M c d) : PutOk M (a ++ c) (b ++ d) := by
  have h3 := h.c
  have h4 := h.d
  have g3 := g.c
  have g4 := g.d
  refine ⟨GA_two h.g g.g, NA_app h.n g.n, ?_, ?_, ?_⟩
  · rw [cntA_two, cntA_two]
    omega
  · rw [depA_two, depA_two]
    omega
  · rw [List.length_append, List.length_append, h.l, g.l]
section
variable {M : List Str} {t : Stp} (g : t.G) (n : t.N M) (c : t.cnt = 1) (d : t.dep = 0)
include g n c d
mutual
theorem put_ok : ∀ (s : Stp) (k : Int), s.G → s.N M → PutOk M [s] (s.put k [t])
  | .set w sc st f, k, hg, hn => by
    rw [Stp.put]
    all_goals try (intro a b z; cases z)
    split
    · exact .one g n (by rw [c]; exact cnt_pos _) (by rw [d]; exact Nat.zero_le _)
    · split
      · exact .one hg hn (Nat.le_refl _) (Nat.le_refl _)
      · exact .one hg hn (Nat.le_refl _) (Nat.le_refl _)
  | .rd sc x, k, hg, hn => by
    rw [Stp.put]
    all_goals try (intro a b z; cases z)
    split
    · exact .one g n (by rw [c]; exact cnt_pos _) (by rw [d]; exact Nat.zero_le _)
    · split
      · exact .one hg hn (Nat.le_refl _) (Nat.le_refl _)
      · exact .one hg hn (Nat.le_refl _) (Nat.le_refl _)
  | .tr a b, k, hg, hn => by
    have hg2 := hg
    have hn2 := hn
    rw [Stp.G] at hg2
    rw [Stp.N] at hn2
    rw [Stp.put]
    split
    · exact .one g n (by rw [c]; exact cnt_pos _) (by rw [d]; exact Nat.zero_le _)
    · split
      · split
        · have z := putA_ok a (k - 1) hg2.1 hn2.1
          have z3 := z.c
          have z4 := z.d
          refine .one (by rw [Stp.G]; exact ⟨z.g, hg2.2⟩) (N_tr z.n hn2.2) ?_ ?_
          · rw [Stp.cnt, Stp.cnt]
            omega
          · rw [Stp.dep, Stp.dep]
            omega
        · have z := putA_ok b (k - 1 - (Stp.cntA a : Int)) hg2.2 hn2.2
          have z3 := z.c
          have z4 := z.d
          refine .one (by rw [Stp.G]; exact ⟨hg2.1, z.g⟩) (N_tr hn2.1 z.n) ?_ ?_
          · rw [Stp.cnt, Stp.cnt]
            omega
          · rw [Stp.dep, Stp.dep]
            omega
      · exact .one hg hn (Nat.le_refl _) (Nat.le_refl _)
theorem putA_ok : ∀ (a : List Stp) (k : Int), Stp.GA a → Stp.NA M a → PutOk M a (Stp.putA a k [t])
  | [], k, _, _ => by
    rw [Stp.putA]
    exact ⟨by rw [Stp.GA]; trivial, by rw [Stp.NA]; trivial, Nat.le_refl _, Nat.le_refl _, rfl⟩
  | s :: r, k, hg, hn => by
    rw [Stp.GA] at hg
    rw [Stp.NA] at hn
    rw [Stp.putA]
    exact (put_ok s k hg.1 hn.1).app (putA_ok r (k - (s.cnt : Int)) hg.2 hn.2)
end
end
theorem wk_ne {bd sd : List PyData} {ns : List Str} {n0 n1 : Str} {ss : List Stp} (h : Wk bd sd ns n0 n1 ss) : 1 ≤ ss.length := by
  cases h <;> simp only [List.length_append, List.length_cons] <;> omega
theorem cntA_pos : ∀ {a : List Stp}, 1 ≤ a.length → 1 ≤ Stp.cntA a
  | [], h => absurd h (by decide)
  | s :: r, _ => by
    rw [Stp.cntA]
    have := cnt_pos s
    omega
/-! ### the words against the steps, numbered -/
def numD (x : Nat × Option Str) : PyData := .tuple [.int (x.1 : Int), match x.2 with | none => .none | some w => .str w]
def wRows (bd sd : List PyData) : List Stp → Nat → List (Nat × Option Str)
  | [], _ => []
  | s :: r, i => if isTr s = true then wRows bd sd r (i + 1) else (i, misW bd sd s) :: wRows bd sd r (i + 1)
theorem wRows_snoc {bd sd : List PyData} : ∀ (l : List Stp) (s : Stp) (i : Nat), wRows bd sd (l ++ [s]) i = wRows bd sd l i ++ (if isTr s = true then [] else [(i + l.length, misW bd sd s)])
  | [], s, i => by
    show wRows bd sd [s] i = _
    rw [wRows, wRows, wRows]
    rfl
  | t :: r, s, i => by
    show wRows bd sd (t :: (r ++ [s])) i = _
    rw [wRows, wRows, wRows_snoc r s (i + 1), show i + 1 + r.length = i + (t :: r).length by rw [List.length_cons]; omega]
    split <;> rfl
theorem wRows_len {bd sd : List PyData} : ∀ (l : List Stp) (i : Nat), (wRows bd sd l i).length ≤ l.length
  | [], _ => Nat.le_refl _
  | t :: r, i => by
    have := wRows_len (bd := bd) (sd := sd) r (i + 1)
    rw [wRows]
    split
    · rw [List.length_cons]; omega
    · rw [List.length_cons, List.length_cons]; omega
def hit (x : Nat × Option Str) : Bool := x.2.isSome
theorem misF_head {bd sd : List PyData} : ∀ (l : List Stp) (i : Nat), misF bd sd l i = ((wRows bd sd l i).filter hit).head?.bind fun x => x.2.map fun w => (x.1, w)
  | [], _ => rfl
  | s :: r, i => by
    rw [misF, wRows]
    cases hm : misW bd sd s with
    | none =>
      show misF bd sd r (i + 1) = _
      rw [misF_head r (i + 1)]
      by_cases nt : isTr s = true
      · rw [if_pos nt]
      · rw [if_neg nt, List.filter_cons_of_neg (by exact Bool.false_ne_true)]
    | some x =>
      have nt : ¬ isTr s = true := fun z => by
        cases s with
        | tr a b => cases hm
        | _ => cases z
      rw [if_neg nt, List.filter_cons_of_pos rfl]
      rfl
theorem pairs_noL : ∀ l : List (Nat × Option Str), noLA (l.map numD) = true
  | [] => rfl
  | (i, none) :: r => by
    show (noL (.tuple [.int (i : Int), .none]) && noLA (r.map numD)) = true
    rw [pairs_noL r]
    rfl
  | (i, some x) :: r => by
    show (noL (.tuple [.int (i : Int), .str x]) && noLA (r.map numD)) = true
    rw [pairs_noL r]
    rfl
theorem DtA.kt {K : PySem.W.Frag} {D : Addr} {H H' : Hp} {vs : List V} {ds : List PyData} (h : DtA K D H vs ds) (k : KT K H H') (n : noLA ds = true) : DtA K D H' vs ds := DtA.only k ds n h
theorem misW_word {bd sd : List PyData} {s : Stp} {x : Str} (h : misW bd sd s = some x) : x = "scale" ∨ x = "slide" ∨ x = "stretch" := by
  cases s with
  | tr a b => cases h
  | rd sc nm =>
    have h2 : (if sc ∈ (bd ++ sd).map nmD then none else some ("scale" : Str)) = some x := h
    split at h2
    · cases h2
    · cases h2
      exact .inl rfl
  | set w sc st f =>
    have h2 : (match lookS (bd ++ sd) (.str sc) with | none => some ("scale" : Str) | some (t, _) => if w = "slide" ∧ sc ∉ sd.map nmD then some ("slide" : Str) else if ab t ≤ st then some ("stretch" : Str) else none) = some x := h
    split at h2
    · cases h2
      exact .inl rfl
    · split at h2
      · cases h2
        exact .inr (.inl rfl)
      · split at h2
        · cases h2
          exact .inr (.inr rfl)
        · cases h2
theorem misF_some {bd sd : List PyData} : ∀ {l : List Stp} {k i : Nat} {x : Str}, misF bd sd l k = some (i, x) → i < k + l.length ∧ (x = "scale" ∨ x = "slide" ∨ x = "stretch")
  | [], k, i, x, h => nomatch h
  | s :: r, k, i, x, h => by
    rw [misF] at h
    cases hm : misW bd sd s with
    | none =>
      rw [hm] at h
      have z := misF_some h
      exact ⟨by rw [List.length_cons]; omega, z.2⟩
    | some y =>
      rw [hm] at h
      cases h
      exact ⟨by rw [List.length_cons]; omega, misW_word hm⟩
theorem szd_mis {bd sd : List PyData} {l : List Stp} (h : l.length ≤ 40) : Szd (misD (misF bd sd l 0)) 16000 60 ∧ ((misD (misF bd sd l 0)).hasDict = true → noLs (misD (misF bd sd l 0)) = true) := by
  cases e : misF bd sd l 0 with
  | none => exact ⟨(szd_okd okd_non).mono (by decide) (by decide), fun z => by cases z⟩
  | some p =>
    obtain ⟨i, x⟩ := p
    obtain ⟨hi, hx⟩ := misF_some e
    have sx : Szd (.str x) 10 0 := by
      rcases hx with rfl | rfl | rfl <;> exact szd_str (by decide)
    have si : Szd (.int (i : Int)) 8 0 := szd_okd (okd_int (k := 8) (by show (i : Int).natAbs < 2 ^ 8; omega) (by decide) (by decide))
    exact ⟨(szd_tup2 si sx).mono (by decide) (by decide), fun z => by
      simp only [misD, PyData.hasDict, PyData.hasDictAll, Bool.or_self] at z
      cases z⟩
end Qj
namespace Qj
open PySem PySem.Spec PyProof.Rows L2
/-- the item at a drawn place -/
theorem DtA.pick {K : PySem.W.Frag} {D : Addr} {H : Hp} {vs : List V} {ds : List PyData} (h : DtA K D H vs ds) {c : Int} (c0 : 0 ≤ c) (c1 : c < (ds.length : Int)) : ∃ v d, atI vs c = some v ∧ Dt K D H v d ∧ ds[c.toNat]? = some d := by
  have l := h.len
  obtain ⟨j, xv, hj, ha, rfl⟩ := pickV (xs := vs) c0 (by omega)
  obtain ⟨d, hd, dd⟩ := h.at hj
  exact ⟨xv, d, ha, dd, by
    first
    | exact hd
    | (rw [Int.toNat_natCast]; exact hd)⟩
theorem one_cnt {s : Stp} (h : isTr s = false) : s.cnt = 1 ∧ s.dep = 0 := by
  cases s with
  | tr a b => cases h
  | set _ _ _ _ => exact ⟨by rw [Stp.cnt], by rw [Stp.dep]⟩
  | rd _ _ => exact ⟨by rw [Stp.cnt], by rw [Stp.dep]⟩
theorem dt_num {K : PySem.W.Frag} {D : Addr} {H : Hp} {p : Addr} {i : Nat} {o : Option Str} (h : SqT K H p [.int (i : Int), wOr o]) : Dt K D H (.ref p) (numD (i, o)) := by
  cases o with
  | none => exact .tup h (.cons (.int _) (.cons .non .nil))
  | some x => exact .tup h (.cons (.int _) (.cons (.str x) .nil))
end Qj
namespace Qj
open PySem PySem.Spec PyProof.Rows L2 HT
/-! ### t[::-1], t a tuple -/
section
variable {prog : Program} {w : World} {A : Around} {E : Value → Shared → Prop} {s : Shared}
theorem adjust_rev (n : Nat) : Builtin.Slice.sliceAdjust none none (-1) (n : Int) = ((n : Int) - 1, -1) := rfl
theorem places_rev (n : Nat) : Builtin.Slice.slicePlaces ((n : Int) - 1) (-1) (-1) = n := by
  unfold Builtin.Slice.slicePlaces
  have h1 : ¬ ((-1 : Int) > 0) := by decide
  simp only [h1, if_false]
  have e : (- -1 : Int) = 1 := by decide
  split
  · rw [e, Int.ediv_one]
    omega
  · omega
theorem applied_rev {sl : Addr} {vs : Value} {n : Nat} {Q : Int × Int × Nat → Shared → Prop} (hs : s.heap.IsSliceOf sl .none .none vs) (ps : IsPart vs (some (-1))) (h : Q ((n : Int) - 1, -1, n) s) :
    wpAny (model prog w) A (Builtin.Slice.sliceApplied (.ref sl) (pure (n : Int))) Q E s := by
  obtain ⟨os, hos, hcs, hds⟩ := id hs
  unfold Builtin.Slice.sliceApplied Builtin.Slice.sliceFields
  refine wpAny_bind (wpAny_bind (wpAny_field hos hds (x := .none) rfl (wpAny_bind (wpAny_field hos hds (x := .none) rfl (wpAny_bind (wpAny_field hos hds (x := vs) rfl (wpAny_pure ?_)))))))
  refine wpAny_bind (slicePart_ ps ?_)
  show wpAny _ _ (if ((-1 : Int) == 0) = true then _ else _) _ _ s
  rw [if_neg (by decide)]
  refine wpAny_bind (slicePart_ .none (wpAny_bind (slicePart_ .none (wpAny_bind (wpAny_pure ?_)))))
  show wpAny _ _ (match Builtin.Slice.sliceAdjust none none (-1) (n : Int) with | (lo, hi) => pure (lo, (-1 : Int), Builtin.Slice.slicePlaces lo hi (-1))) _ _ s
  rw [adjust_rev n]
  show wpAny _ _ (pure ((n : Int) - 1, (-1 : Int), Builtin.Slice.slicePlaces ((n : Int) - 1) (-1) (-1))) _ _ s
  rw [places_rev]
  exact wpAny_pure h
theorem pick_rev (xs : Array Value) : ((List.range xs.size).filterMap fun (m : Nat) => xs[((xs.size : Int) - 1 + (m : Int) * -1).toNat]?).toArray = xs.toList.reverse.toArray := by
  have e : (fun (m : Nat) => xs[((xs.size : Int) - 1 + (m : Int) * -1).toNat]?) = (fun k => xs[k]?) ∘ fun (m : Nat) => ((xs.size : Int) - 1 + (m : Int) * -1).toNat := rfl
  rw [e, ← List.filterMap_map]
  have e2 : (List.range xs.size).map (fun (m : Nat) => ((xs.size : Int) - 1 + (m : Int) * -1).toNat) = (List.range xs.size).reverse := by
    rw [← PySem.W.krv_range]
    apply List.map_congr_left
    intro k hk
    have := List.mem_range.mp hk
    omega
  rw [e2, List.filterMap_reverse, PySem.W.krv_all]
theorem getItem_tuple_rev {t sl : Addr} {items : Array Value} {vs : Value} {Q : Value → Shared → Prop} (ht : IsTup s.heap t items) (hs : s.heap.IsSliceOf sl .none .none vs) (ps : IsPart vs (some (-1)))
    (h : Q (.ref s.heap.objs.size) { s with heap := s.heap.push { cls := .type "tuple", data := .seq items.toList.reverse.toArray } }) (hsz : items.size ≤ sizeLine) : wpAny (model prog w) A (getItem (.ref t) (.ref sl)) Q E s := by
  have htake : sizeOk (.seq items.toList.reverse.toArray) := by
    show items.toList.reverse.toArray.size ≤ sizeLine
    rw [List.size_toArray, List.length_reverse, Array.length_toList]
    exact hsz
  obtain ⟨os, hos, hcs, hds⟩ := id hs
  have hTs : s.TypeIs (.ref sl) "slice" := ⟨os, hos, hcs⟩
  unfold getItem
  try with_reducible refine wpAny_holding ?_
  first | refine wpAny_bind (wpAny_pure ?_) | skip
  refine wpAny_bind (wpAny_sequenceKey ht.typeIs (by decide) ?_)
  refine wpAny_bind (wpAny_callSpecial?_slot (name := Str.ofString "__getitem__") ht.typeIs PyProof.Rows.slot_tuple_getitem
    (wpAny_call_entry PyProof.Rows.slot_tuple_getitem ht.typeIs entry_tuple_getitem ?_ (args_tuple_getitem _ _)))
  show wpAny _ _ (Builtin.Tuple.tupleItemsOf (.ref t) >>= _) _ _ s
  refine wpAny_bind (tupleItemsOf_ ht ?_)
  refine wpAny_bind (wpAny_typeOf hTs ?_)
  rw [if_pos (by decide)]
  refine wpAny_bind (applied_rev hs ps ?_)
  have hno : ¬ ((((items.size : Int) - 1) == 0 && (-1 : Int) == 1 && items.size == items.size) = true) := by
    intro q
    rw [Bool.and_eq_true, Bool.and_eq_true] at q
    exact absurd q.1.2 (by decide)
  show wpAny _ _ (if (((items.size : Int) - 1) == 0 && (-1 : Int) == 1 && items.size == items.size) = true then _ else _) _ _ s
  rw [if_neg hno, pick_rev]
  first
    | exact wpAny_bind (m := Builtin.Tuple.tupleExact _) (wpAny_newObj_type (wpAny_pure ⟨_, rfl, wpAny_pure h⟩) htake)
    | exact wpAny_bind (m := Builtin.Tuple.tupleExact _) (wpAny_newObj_type (wpAny_bind (wpAny_pure (wpAny_pure ⟨_, rfl, wpAny_pure h⟩))) htake)
    | exact wpAny_bind (wpAny_bind (m := Builtin.Tuple.tupleExact _) (wpAny_newObj_type (wpAny_pure (wpAny_pure ⟨_, rfl, wpAny_pure h⟩)) htake))
    | exact wpAny_bind (wpAny_bind (m := Builtin.Tuple.tupleExact _) (wpAny_newObj_type (wpAny_pure ⟨_, rfl, wpAny_pure h⟩) htake))
end
section
variable {X : Cx}
def tRevT (K : PySem.W.Frag) (te : TE) : TE := fun σ H Q => te σ H fun x H1 => ∃ a xs, x = .ref a ∧ SqT K H1 a xs ∧ ∀ p, H1 p = none → Q (.ref p) (upd H1 p (.tup xs.reverse))
theorem pe_revT {e : Expr} {te : TE} {k : Nat} {p1 p2 p3 pos : PySem.Pos} (K : PySem.W.Frag) (hK : X.K = K) (he : PE X e te) : PE X (.Subscript e (.Slice none none (some (.UnaryOp .USub (.Constant (.int 1) k p1) p2)) p3) pos) (tRevT K te) := by
  subst hK
  refine ⟨fun pins s σ H Q I h => ?_⟩
  refine Subscript_ (thn (he.run pins s σ H _ I h) fun v s1 ⟨x, H1, I1, r1, q1⟩ => ?_)
  obtain ⟨a, xs, ex, hx, q⟩ := q1
  subst ex
  cases r1
  have hst : PO X (some (.UnaryOp .USub (.Constant (.int 1) k p1) p2)) (tPart (tUn (rU fun i => .int (-i)) (tC (.int 1)))) := po_some (pe_un un_neg pe_int)
  refine wpAny_Slice (thn (po_none.run pins s1 σ H1 (fun o H2 => o = none ∧ H2 = H1) I1 ⟨rfl, rfl⟩) fun vl s2 ⟨l, H2, I2, pl, el, e2⟩ => ?_)
  subst el e2
  refine thn (po_none.run pins s2 σ H2 (fun o H3 => o = none ∧ H3 = H2) I2 ⟨rfl, rfl⟩) fun vu s3 ⟨u, H3, I3, pu, eu, e3⟩ => ?_
  subst eu e3
  refine thn (hst.run pins s3 σ H3 (fun o H4 => o = some (-1) ∧ H4 = H3) I3 ⟨1, rfl, -1, rfl, rfl, rfl⟩) fun vs s4 ⟨o, H4, I4, ps, eo, e4⟩ => ?_
  subst eo e4
  cases pl
  cases pu
  have I5 : Inv X pins σ H4 { s4 with heap := s4.heap.push { cls := .type "slice", data := .fields #[.none, .none, vs] } } := I4.kept (t' := s4.toks) fun b ob q => Heap.get?_push_of_some _ q
  obtain ⟨its, r, ht, hz⟩ := I5.tuple hx
  have hlen := r.length
  show wpAny (model X.prog X.w) X.A (subscriptTail e (.Slice none none (some (.UnaryOp .USub (.Constant (.int 1) k p1) p2)) p3) (.ref a) (.ref s4.heap.objs.size)) (EP X pins σ Q) X.xe { s4 with heap := s4.heap.push { cls := .type "slice", data := .fields #[.none, .none, vs] } }
  refine tail_any (ops := [.ref a, .ref s4.heap.objs.size]) ht.typeIs (PyProof.Rows.slot_tuple_getitem.lookup) ?_ (by with_unfolding_all rfl)
  refine getItem_tuple_rev ht (Heap.IsSliceOf.new _ .none .none vs) ps ?_ (by rw [List.size_toArray]; omega)
  refine ⟨.ref _, _, I5.laid (t' := s4.toks) (o := .tup xs.reverse) (fun b ob q => Heap.get?_push_of_some _ q) (Nat.le_refl _) ?_, rfl, q _ (I5.hok.fresh (Nat.le_refl _))⟩
  exact ⟨by rw [List.length_reverse]; exact hz, _, r.reverse, IsTup.new _ _⟩
end
end Qj
namespace Qj
open PySem PySem.Spec PyProof.Rows L2
/-! ### what is wrong with a step by itself -/
def endD (f : PyData) : Bool := PyData.eqv (.str "left") f || PyData.eqv (.str "right") f
def isZ : PyData → Bool
  | .int i => decide (i = 0)
  | _ => false
def wFig (st f : PyData) : Option Str :=
  if strOkD 3 st = true then (if endD f = true then (if isZ st = true then none else some "figure") else if (dWord lowZ f || dMant f) = true then none else some "figure") else some "stretch"
def wTry (dp : Nat) : PyData → PyData → Option Str
  | .tuple (_ :: _), .tuple _ => if 2 ≤ dp then some "deep" else none
  | _, _ => some "parts"
def wWord (d : PyData) (dp : Nat) : Option Str := match d with
  | .tuple [.str x, p, q] => if x = "try" then wTry dp p q else if x = "read" then (if dWord capZ p = true then (if dWord lowZ q = true then none else some "name") else some "scale") else some "step"
  | .tuple [.str x, p, q, r] => if x = "line" ∨ x = "slide" then (if dWord capZ p = true then wFig q r else some "scale") else some "step"
  | _ => some "step"
def kidsD : PyData → List PyData
  | .tuple [.str x, .tuple a, .tuple b] => if x = "try" then a ++ b else []
  | _ => []
/-- a value that the checks of a step can look at -/
structure WOk (d : PyData) : Prop where
  sh : shD d = true
  kw : ∀ x r, d = .tuple (.str x :: r) → x ∈ (["line", "slide", "read", "try", "turn"] : List Str)
  fg : ∀ x s t f, d = .tuple [.str x, s, t, f] → Plain f
/-- from a row of values with their depths, the first next, k its number, to the first that is wrong; n bounds how many are looked at -/
inductive WRun : Nat → List (PyData × Nat) → Nat → Option (Nat × Str) → Prop
  | done {k n : Nat} : WRun n [] k none
  | bad {d : PyData} {dp k n : Nat} {r : List (PyData × Nat)} {x : Str} (ok : WOk d) (lr : r.length < 1000) (h : wWord d dp = some x) : WRun n ((d, dp) :: r) k (some (k, x))
  | go {d : PyData} {dp k n : Nat} {r : List (PyData × Nat)} {res : Option (Nat × Str)} (ok : WOk d) (lr : r.length < 1000) (lk : (kidsD d).length + r.length ≤ 1000) (h : wWord d dp = none) (t : WRun n ((kidsD d).map (·, dp + 1) ++ r) (k + 1) res) : WRun (n + 1) ((d, dp) :: r) k res
def spBegins (K : PySem.W.Frag) : Sp := fun vs H Q _ => ∃ (D : Addr) (v : V) (d : PyData), vs = [v] ∧ Dt K D H v d ∧ WOk d ∧ ∀ H', Evl.Ex H H' →
  (∀ x p q, d = .tuple [.str x, p, q] → x = "try" ∨ x = "read" → Q (.bl true) H') ∧ (∀ x p q r, d = .tuple [.str x, p, q, r] → x = "line" ∨ x = "slide" → Q (.bl true) H') ∧
  ((∀ x p q, d = .tuple [.str x, p, q] → x ≠ "try" ∧ x ≠ "read") → (∀ x p q r, d = .tuple [.str x, p, q, r] → x ≠ "line" ∧ x ≠ "slide") → Q (.bl false) H')
def spWTry (K : PySem.W.Frag) : Sp := fun vs H Q _ => ∃ (D : Addr) (v : V) (x p q : PyData) (dp : Nat), vs = [v, .int (dp : Int)] ∧ Dt K D H v (.tuple [x, p, q]) ∧ ∀ H', Evl.Ex H H' → Q (wOr (wTry dp p q)) H'
def spWFig (K : PySem.W.Frag) : Sp := fun vs H Q _ => ∃ (D : Addr) (v u : V) (st f : PyData), vs = [v, u] ∧ Dt K D H v st ∧ Dt K D H u f ∧ shD st = true ∧ shD f = true ∧ Plain f ∧ ∀ H', Evl.Ex H H' → Q (wOr (wFig st f)) H'
def spWWord (K : PySem.W.Frag) : Sp := fun vs H Q _ => ∃ (D : Addr) (v : V) (d : PyData) (dp : Nat), vs = [v, .int (dp : Int)] ∧ Dt K D H v d ∧ WOk d ∧ ∀ H', Evl.Ex H H' → Q (wOr (wWord d dp)) H'
def spWStep (K : PySem.W.Frag) : Sp := fun vs H Q _ => ∃ (D : Addr) (v : V) (ds : List PyData) (n : Nat) (res : Option (Nat × Str)), vs = [v] ∧ Dt K D H v (.tuple ds) ∧ WRun n (ds.map (·, 0)) 0 res ∧ ds.length ≤ 1000 ∧ ∀ u H', Evl.Ex H H' → Dt K D H' u (misD res) → Q u H'
/-! ### right steps -/
mutual
def Stp.R (dp : Nat) : Stp → Prop
  | .set w sc st f => (w = "line" ∨ w = "slide") ∧ dWord capZ (.str sc) = true ∧ wFig (.int st) f = none ∧ Plain f ∧ shD f = true
  | .rd sc nm => dWord capZ (.str sc) = true ∧ dWord lowZ (.str nm) = true
  | .tr a b => a ≠ [] ∧ dp < 2 ∧ Stp.RA (dp + 1) a ∧ Stp.RA (dp + 1) b
def Stp.RA (dp : Nat) : List Stp → Prop
  | [] => True
  | s :: r => s.R dp ∧ Stp.RA dp r
end
theorem word_sh {z x : Str} (h : dWord z (.str x) = true) : shD (.str x) = true := by
  have h2 : (decide (1 ≤ x.cps.size) && (decide (x.cps.size ≤ 3) && x.cps.toList.all fun c => decide (c ∈ z.cps.toList))) = true := h
  rw [Bool.and_eq_true, Bool.and_eq_true] at h2
  have := of_decide_eq_true h2.2.1
  show decide (x.cps.size ≤ 1000) = true
  exact decide_eq_true (by omega)
mutual
theorem R_sh : ∀ (s : Stp) (dp : Nat), s.R dp → shD s.d = true
  | .set w sc st f, dp, h => by
    rw [Stp.R] at h
    have a : shD (.str w) = true := by rcases h.1 with rfl | rfl <;> decide
    show (shD (.str w) && (shD (.str sc) && (shD (.int st) && (shD f && true)))) = true
    rw [a, word_sh h.2.1, h.2.2.2.2]
    rfl
  | .rd sc nm, dp, h => by
    rw [Stp.R] at h
    show (shD (.str "read") && (shD (.str sc) && (shD (.str nm) && true))) = true
    rw [word_sh h.1, word_sh h.2]
    decide
  | .tr a b, dp, h => by
    rw [Stp.R] at h
    show (shD (.str "try") && (shA (Stp.ds a) && (shA (Stp.ds b) && true))) = true
    rw [RA_sh a _ h.2.2.1, RA_sh b _ h.2.2.2]
    decide
theorem RA_sh : ∀ (a : List Stp) (dp : Nat), Stp.RA dp a → shA (Stp.ds a) = true
  | [], _, _ => rfl
  | s :: r, dp, h => by
    rw [Stp.RA] at h
    show (shD s.d && shA (Stp.ds r)) = true
    rw [R_sh s dp h.1, RA_sh r dp h.2]
    rfl
end
theorem R_ok {s : Stp} {dp : Nat} (h : s.R dp) : WOk s.d ∧ wWord s.d dp = none := by
  have sh := R_sh s dp h
  cases s with
  | set w sc st f =>
    rw [Stp.R] at h
    refine ⟨⟨sh, fun x r e => ?_, fun x s t g e => ?_⟩, ?_⟩
    · cases e
      rcases h.1 with rfl | rfl <;> decide
    · cases e
      exact h.2.2.2.1
    · show (if w = "line" ∨ w = "slide" then (if dWord capZ (.str sc) = true then wFig (.int st) f else some "scale") else some ("step" : Str)) = none
      rw [if_pos h.1, if_pos h.2.1]
      exact h.2.2.1
  | rd sc nm =>
    rw [Stp.R] at h
    refine ⟨⟨sh, fun x r e => ?_, fun x s t g e => by cases e⟩, ?_⟩
    · cases e
      decide
    · show (if dWord capZ (.str sc) = true then (if dWord lowZ (.str nm) = true then none else some ("name" : Str)) else some ("scale" : Str)) = none
      rw [if_pos h.1, if_pos h.2]
  | tr a b =>
    rw [Stp.R] at h
    refine ⟨⟨sh, fun x r e => ?_, fun x s t g e => by cases e⟩, ?_⟩
    · cases e
      decide
    · cases a with
      | nil => exact absurd rfl h.1
      | cons s r =>
        show (if 2 ≤ dp then some ("deep" : Str) else none) = none
        rw [if_neg (by omega)]
theorem kids_tr (a b : List Stp) : kidsD (Stp.tr a b).d = Stp.ds a ++ Stp.ds b := rfl
mutual
theorem run_R : ∀ (s : Stp) (dp k n : Nat) (r : List (PyData × Nat)) (res : Option (Nat × Str)), s.R dp → s.cnt + r.length ≤ 1000 → WRun n r (k + s.cnt) res → WRun (n + s.cnt) ((s.d, dp) :: r) k res
  | .set w sc st f, dp, k, n, r, res, h, l, t => by
    have z := R_ok h
    rw [Stp.cnt] at l t ⊢
    exact .go z.1 (by omega) (by show 0 + r.length ≤ 1000; omega) z.2 t
  | .rd sc nm, dp, k, n, r, res, h, l, t => by
    have z := R_ok h
    rw [Stp.cnt] at l t ⊢
    exact .go z.1 (by omega) (by show 0 + r.length ≤ 1000; omega) z.2 t
  | .tr a b, dp, k, n, r, res, h, l, t => by
    have z := R_ok h
    rw [Stp.R] at h
    rw [Stp.cnt] at l t ⊢
    have la := len_cnt a
    have lb := len_cnt b
    have e : n + (1 + Stp.cntA a + Stp.cntA b) = (n + Stp.cntA b + Stp.cntA a) + 1 := by omega
    rw [e]
    refine .go z.1 (by omega) ?_ z.2 ?_
    · rw [kids_tr, List.length_append, ds_len, ds_len]
      omega
    · rw [kids_tr, List.map_append, List.append_assoc]
      refine run_RA a (dp + 1) (k + 1) _ _ res h.2.2.1 ?_ (run_RA b (dp + 1) (k + 1 + Stp.cntA a) _ _ res h.2.2.2 (by omega) ?_)
      · rw [List.length_append, List.length_map, ds_len]
        omega
      · rw [show k + 1 + Stp.cntA a + Stp.cntA b = k + (1 + Stp.cntA a + Stp.cntA b) by omega]
        exact t
theorem run_RA : ∀ (a : List Stp) (dp k n : Nat) (r : List (PyData × Nat)) (res : Option (Nat × Str)), Stp.RA dp a → Stp.cntA a + r.length ≤ 1000 → WRun n r (k + Stp.cntA a) res → WRun (n + Stp.cntA a) ((Stp.ds a).map (·, dp) ++ r) k res
  | [], dp, k, n, r, res, _, _, t => t
  | s :: a, dp, k, n, r, res, h, l, t => by
    rw [Stp.RA] at h
    rw [Stp.cntA] at l t ⊢
    have la := len_cnt a
    show WRun (n + (s.cnt + Stp.cntA a)) ((s.d, dp) :: ((Stp.ds a).map (·, dp) ++ r)) k res
    rw [show n + (s.cnt + Stp.cntA a) = n + Stp.cntA a + s.cnt by omega]
    refine run_R s dp k _ _ res h.1 ?_ (run_RA a dp (k + s.cnt) n r res h.2 (by omega) (by rw [Nat.add_assoc]; exact t))
    rw [List.length_append, List.length_map, ds_len]
    omega
end
theorem run_right {a : List Stp} (h : Stp.RA 0 a) (l : Stp.cntA a ≤ 1000) : WRun (0 + Stp.cntA a) ((Stp.ds a).map (·, 0)) 0 none := by
  have z := run_RA a 0 0 0 [] none h (by simpa using l) .done
  rwa [List.append_nil] at z
/-! ### whether it ends -/
mutual
def Stp.ends : Stp → Bool
  | .set _ _ _ _ => false
  | .rd _ _ => true
  | .tr a b => Stp.endsA a && Stp.endsA b
def Stp.endsA : List Stp → Bool
  | [] => false
  | s :: r => match r with
    | [] => s.ends
    | _ => Stp.endsA r
end
theorem endsA_last : ∀ (a : List Stp) (s : Stp), Stp.endsA (a ++ [s]) = s.ends
  | [], s => by rw [List.nil_append, Stp.endsA]
  | x :: a, s => by
    rw [List.cons_append, Stp.endsA]
    · exact endsA_last a s
    · intro z
      cases a <;> cases z
def spEnds (K : PySem.W.Frag) (n : Nat) : Sp := fun vs H Q _ => ∃ (D : Addr) (v : V) (a : List Stp), vs = [v] ∧ Dt K D H v (.tuple (Stp.ds a)) ∧ Stp.GA a ∧ Stp.depA a < n ∧ Q (.bl (Stp.endsA a)) H
/-! ### the scope of notes -/
def scF (nt : List Str) (k : Int) (kn : List Str) : PyData → Except Int (List Str)
  | .str x => if x ∈ nt ∧ x ∉ kn then .error k else .ok kn
  | _ => .ok kn
mutual
def Stp.sc (nt : List Str) : Stp → Int → List Str → Except Int (List Str)
  | .set _ _ _ f, k, kn => scF nt k kn f
  | .rd _ nm, k, kn => if nm ∈ kn then .error k else .ok (kn ++ [nm])
  | .tr a b, k, kn => match Stp.scA nt a (k + 1) kn with
    | .error e => .error e
    | .ok l => match Stp.scA nt b (k + 1 + (Stp.cntA a : Int)) kn with
      | .error e => .error e
      | .ok m => .ok (l.filter fun x => decide (x ∈ m))
def Stp.scA (nt : List Str) : List Stp → Int → List Str → Except Int (List Str)
  | [], _, kn => .ok kn
  | s :: r, k, kn => match s.sc nt k kn with
    | .error e => .error e
    | .ok l => Stp.scA nt r (k + (s.cnt : Int)) l
end
mutual
theorem sc_same {nt mt : List Str} (h : ∀ x, x ∈ nt ↔ x ∈ mt) : ∀ (s : Stp) (k : Int) (kn : List Str), s.sc nt k kn = s.sc mt k kn
  | .set _ _ _ f, k, kn => by
    rw [Stp.sc, Stp.sc]
    cases f <;> first | rfl | (unfold scF; simp only [h])
  | .rd _ nm, k, kn => by rw [Stp.sc, Stp.sc]
  | .tr a b, k, kn => by
    rw [Stp.sc, Stp.sc, scA_same h a, scA_same h b]
theorem scA_same {nt mt : List Str} (h : ∀ x, x ∈ nt ↔ x ∈ mt) : ∀ (a : List Stp) (k : Int) (kn : List Str), Stp.scA nt a k kn = Stp.scA mt a k kn
  | [], k, kn => by rw [Stp.scA, Stp.scA]
  | s :: r, k, kn => by
    rw [Stp.scA, Stp.scA, sc_same h s]
    cases s.sc mt k kn with
    | error e => rfl
    | ok l => exact scA_same h r _ l
end
mutual
theorem sc_len {nt : List Str} : ∀ (s : Stp) (k : Int) (kn l : List Str), s.sc nt k kn = .ok l → l.length ≤ kn.length + s.cnt
  | .set _ _ _ f, k, kn, l, h => by
    rw [Stp.sc] at h
    rw [Stp.cnt]
    cases f with
    | str x =>
      unfold scF at h
      dsimp only at h
      split at h <;> cases h
      omega
    | _ => cases h; omega
  | .rd _ nm, k, kn, l, h => by
    rw [Stp.sc] at h
    rw [Stp.cnt]
    split at h <;> cases h
    rw [List.length_append, List.length_singleton]
    omega
  | .tr a b, k, kn, l, h => by
    rw [Stp.sc] at h
    rw [Stp.cnt]
    cases ha : Stp.scA nt a (k + 1) kn with
    | error e => rw [ha] at h; cases h
    | ok la =>
      rw [ha] at h
      dsimp only at h
      cases hb : Stp.scA nt b (k + 1 + (Stp.cntA a : Int)) kn with
      | error e => rw [hb] at h; cases h
      | ok lb =>
        rw [hb] at h
        cases h
        have z := scA_len a _ _ _ ha
        have y := List.length_filter_le (fun x => decide (x ∈ lb)) la
        omega
theorem scA_len {nt : List Str} : ∀ (a : List Stp) (k : Int) (kn l : List Str), Stp.scA nt a k kn = .ok l → l.length ≤ kn.length + Stp.cntA a
  | [], k, kn, l, h => by
    rw [Stp.scA] at h
    cases h
    rw [Stp.cntA]
    omega
  | s :: r, k, kn, l, h => by
    rw [Stp.scA] at h
    rw [Stp.cntA]
    cases hs : s.sc nt k kn with
    | error e => rw [hs] at h; cases h
    | ok m =>
      rw [hs] at h
      have z := sc_len s k kn m hs
      have y := scA_len r _ _ _ h
      omega
end
/-! ### a working's error -/
/-- x is an operand -/
def Opd (a : List Stp) (x : Str) : Prop := PyData.str x ∈ figs (Stp.allA a) ∧ dWord lowZ (.str x) = true ∧ x ∉ rds (Stp.allA a)
inductive WErr (a : List Stp) : PyData → Prop
  | many (h : 10 < Stp.cntA a) : WErr a (.tuple [.none, .str "many"])
  | end_ (h : Stp.cntA a ≤ 10) (e : Stp.endsA a = false) : WErr a (.tuple [.none, .str "end"])
  | scope {k : Int} (h : Stp.cntA a ≤ 10) (e : Stp.endsA a = true) (s : Stp.scA (rds (Stp.allA a)) a 0 [] = .error k) : WErr a (.tuple [.int k, .str "scope"])
  | opds {l M : List Str} (h : Stp.cntA a ≤ 10) (e : Stp.endsA a = true) (s : Stp.scA (rds (Stp.allA a)) a 0 [] = .ok l) (m : ∀ x ∈ M, Opd a x) (nd : M.Nodup) (l4 : 4 ≤ M.length) : WErr a (.tuple [.none, .str "operands"])
  | ok {l M : List Str} (h : Stp.cntA a ≤ 10) (e : Stp.endsA a = true) (s : Stp.scA (rds (Stp.allA a)) a 0 [] = .ok l) (m : ∀ x, Opd a x → x ∈ M) (l3 : M.length ≤ 3) : WErr a .none
theorem figs_plain {a : List Stp} {dp : Nat} : ∀ {a : List Stp} {dp : Nat}, Stp.RA dp a → ∀ f ∈ figs (Stp.allA a), Plain f := by
  have key : (∀ (s : Stp) (dp : Nat), s.R dp → ∀ f ∈ figs s.all, Plain f) ∧ (∀ (a : List Stp) (dp : Nat), Stp.RA dp a → ∀ f ∈ figs (Stp.allA a), Plain f) := ⟨go1, go2⟩
  exact fun h => key.2 _ _ h
where
  go1 : ∀ (s : Stp) (dp : Nat), s.R dp → ∀ f ∈ figs s.all, Plain f
    | .set w sc st f, dp, h, g, hg => by
      rw [Stp.R] at h
      rw [Stp.all] at hg
      rw [List.mem_singleton.mp (show g ∈ [f] from hg)]
      exact h.2.2.2.1
    | .rd sc nm, dp, h, g, hg => by
      rw [Stp.all] at hg
      exact absurd (show g ∈ [] from hg) (by simp)
    | .tr a b, dp, h, g, hg => by
      rw [Stp.R] at h
      rw [Stp.all] at hg
      have hg2 : g ∈ figs (Stp.allA a ++ Stp.allA b) := hg
      unfold figs at hg2
      rw [List.flatMap_append, List.mem_append] at hg2
      exact hg2.elim (go2 a _ h.2.2.1 g) (go2 b _ h.2.2.2 g)
  go2 : ∀ (a : List Stp) (dp : Nat), Stp.RA dp a → ∀ f ∈ figs (Stp.allA a), Plain f
    | [], dp, h, g, hg => by
      rw [Stp.allA] at hg
      cases hg
    | s :: r, dp, h, g, hg => by
      rw [Stp.RA] at h
      rw [Stp.allA] at hg
      unfold figs at hg
      rw [List.flatMap_append, List.mem_append] at hg
      exact hg.elim (go1 s dp h.1 g) (go2 r dp h.2 g)
/-- the error of a value that is a tuple: of its first wrong step, or of the whole -/
def spWError (K : PySem.W.Frag) : Sp := fun vs H Q _ => ∃ (D : Addr) (v : V) (d : PyData), vs = [v] ∧
  ((∃ (ds : List PyData) (n k : Nat) (x : Str), Dt K D H v (.tuple ds) ∧ ds.length ≤ 1000 ∧ WRun n (ds.map (·, 0)) 0 (some (k, x)) ∧ d = .tuple [.int (k : Int), .str x]) ∨
   (∃ a : List Stp, Wg K D H v a ∧ Stp.RA 0 a ∧ WErr a d)) ∧ ∀ u H', Evl.Ex H H' → Dt K D H' u d → Q u H'
end Qj
namespace Qj
open PySem PySem.Spec PyProof.Rows L2
/-! ### the row of values that wait, the next last -/
inductive Prs (K : PySem.W.Frag) (D : Addr) (H0 G : Hp) : List V → List (PyData × Nat) → Prop
  | nil : Prs K D H0 G [] []
  | cons {p : Addr} {v : V} {d : PyData} {n : Nat} {us : List V} {st : List (PyData × Nat)} (h : SqT K G p [v, .int (n : Int)]) (g : Dt K D H0 v d) (t : Prs K D H0 G us st) : Prs K D H0 G (.ref p :: us) ((d, n) :: st)
theorem Prs.kt {K : PySem.W.Frag} {D : Addr} {H0 G G' : Hp} (k : KT K G G') : ∀ {us : List V} {st : List (PyData × Nat)}, Prs K D H0 G us st → Prs K D H0 G' us st
  | _, _, .nil => .nil
  | _, _, .cons h g t => .cons (k _ _ h) g (t.kt k)
theorem Prs.app {K : PySem.W.Frag} {D : Addr} {H0 G : Hp} : ∀ {us vs : List V} {st tt : List (PyData × Nat)}, Prs K D H0 G us st → Prs K D H0 G vs tt → Prs K D H0 G (us ++ vs) (st ++ tt)
  | _, _, _, _, .nil, h => h
  | _, _, _, _, .cons h g t, k => .cons h g (t.app k)
theorem Prs.len {K : PySem.W.Frag} {D : Addr} {H0 G : Hp} : ∀ {us : List V} {st : List (PyData × Nat)}, Prs K D H0 G us st → us.length = st.length
  | _, _, .nil => rfl
  | _, _, .cons h g t => by rw [List.length_cons, List.length_cons, t.len]
/-- the same upside down: pairs made of the items of a row from its end -/
theorem rev_at {α : Type} {xs : List α} {i : Nat} {x : α} (h : xs.reverse[i]? = some x) : i < xs.length ∧ xs[xs.length - 1 - i]? = some x ∧ xs.drop (xs.length - (i + 1)) = x :: xs.drop (xs.length - i) := by
  have hi : i < xs.reverse.length := (List.getElem?_eq_some_iff.mp h).1
  rw [List.length_reverse] at hi
  have e : xs[xs.length - 1 - i]? = some x := by
    rw [List.getElem?_reverse hi] at h
    exact h
  refine ⟨hi, e, ?_⟩
  have z := drop_next e
  rw [show xs.length - 1 - i = xs.length - (i + 1) by omega] at z
  rw [z, show xs.length - (i + 1) + 1 = xs.length - i by omega]
theorem kids_none {x : Str} {r : List PyData} (h : x ≠ "try") : kidsD (.tuple (.str x :: r)) = [] := by
  unfold kidsD
  split
  · next x2 a b z =>
    cases z
    rw [if_neg h]
  · rfl
theorem step_none {d : PyData} {dp : Nat} (h : wWord d dp = none) : (∃ a b, d = .tuple [.str "try", .tuple a, .tuple b]) ∨ (∃ x r, d = .tuple (.str x :: r) ∧ x ≠ "try" ∧ kidsD d = []) := by
  unfold wWord at h
  split at h
  · next x p q =>
    split at h
    · next e =>
      subst e
      refine .inl ?_
      unfold wTry at h
      split at h
      · exact ⟨_, _, rfl⟩
      · cases h
    · next e =>
      exact .inr ⟨x, _, rfl, e, kids_none e⟩
  · next x p q r =>
    split at h
    · next e =>
      have ne : x ≠ "try" := by rcases e with rfl | rfl <;> decide
      exact .inr ⟨x, _, rfl, ne, kids_none ne⟩
    · cases h
  · cases h
theorem last_at {α : Type} (us : List α) (u : α) : (u :: us).reverse[(u :: us).reverse.length - 1]? = some u ∧ (u :: us).reverse.dropLast = us.reverse := by
  rw [List.reverse_cons]
  refine ⟨?_, List.dropLast_concat⟩
  rw [List.length_append, List.length_singleton, Nat.add_sub_cancel, List.getElem?_append_right (Nat.le_refl _), Nat.sub_self]
  rfl
end Qj
namespace Qj
open PySem PySem.Spec PyProof.Rows L2
/-! ### x not in a tuple, both of any depth -/
def rNotInTup (K : PySem.W.Frag) : R2 := fun x y H Q => ∃ d ds, Dp K H x d ∧ Dp K H y (.tuple ds) ∧ SeqAt.shaped d = true ∧ SeqAt.shaped (.tuple ds) = true ∧ Q (.bl (!(ds.any fun z => PyData.eqv z d))) H
theorem op_notInTup {X : Cx} (K : PySem.W.Frag) (hK : X.K = K) (hu : X.A.units + 65 < cLine) : OpR X (compareOp .NotIn) (rNotInTup K) := by
  subst hK
  intro pins s σ H x y v u Q I rx ry h
  obtain ⟨d, ds, dx, dy, sx, sy, q⟩ := h
  obtain ⟨a1, e1⟩ := Dp.reads I d x v dx rx
  obtain ⟨a2, e2⟩ := Dp.reads I (.tuple ds) y u dy ry
  exact SeqAt.notIn_tuple_reads e2 e1 (SeqAt.canLay_of_shaped sy) (SeqAt.canLay_of_shaped sx) (room_in_shaped sx hu) ⟨.bl _, H, I, rfl, q⟩
theorem any_strs (ns : List Str) (f : PyData) : ((ns.map PyData.str).any fun z => PyData.eqv z f) = (match f with | .str x => decide (x ∈ ns) | _ => false) := by
  induction ns with
  | nil => cases f <;> rfl
  | cons y r ih =>
    rw [List.map_cons, List.any_cons, ih]
    cases f with
    | str x =>
      show ((y == x) || decide (x ∈ r)) = decide (x ∈ y :: r)
      by_cases e : x = y
      · subst e
        simp
      · have : (y == x) = false := beq_eq_false_iff_ne.mpr fun z => e z.symm
        rw [this, Bool.false_or]
        simp [e]
    | _ => rfl
theorem shaped_strs {ns : List Str} (h : ∀ x ∈ ns, PyData.strOk x = true) : SeqAt.shaped (.tuple (ns.map PyData.str)) = true := by
  have a : PyData.canLayAll0 (ns.map PyData.str) = true := by
    induction ns with
    | nil => rfl
    | cons x r ih =>
      simp only [List.map_cons, PyData.canLayAll0, PyData.canLay0, h x (List.mem_cons_self ..), ih fun y hy => h y (List.mem_cons_of_mem _ hy), Bool.and_self]
  have b : PyData.depthAll (ns.map PyData.str) = 0 := by
    clear a h
    induction ns with
    | nil => rfl
    | cons x r ih =>
      simp only [List.map_cons, PyData.depthAll, PyData.depth, ih, Nat.max_self]
  show (PyData.canLay0 (.tuple (ns.map PyData.str)) && decide ((PyData.tuple (ns.map PyData.str)).depth ≤ 64)) = true
  simp only [PyData.canLay0, PyData.depth, a, b]
  rfl
theorem dp_strs {K : PySem.W.Frag} {H : Hp} {p : Addr} {ns : List Str} (h : SqT K H p (ns.map V.str)) : Dp K H (.ref p) (.tuple (ns.map PyData.str)) :=
  Dt.dp (D := 0) _ (by show PyData.hasDictAll _ = false; exact nd_strs ns) (.tup h (dtA_strs ns))
theorem word_ok {x : Str} (h : dWord lowZ (.str x) = true) : PyData.strOk x = true := by
  have h2 : (decide (1 ≤ x.cps.size) && (decide (x.cps.size ≤ 3) && x.cps.toList.all fun c => decide (c ∈ lowZ.cps.toList))) = true := h
  rw [Bool.and_eq_true, Bool.and_eq_true, List.all_eq_true] at h2
  unfold PyData.strOk
  rw [← Array.all_toList, List.all_eq_true]
  intro c hc
  have z := of_decide_eq_true (h2.2.2 c hc)
  have e : ∀ c ∈ lowZ.cps.toList, c < 200 := by decide +kernel
  have := e c z
  exact decide_eq_true (by omega)
/-! ### a look at the scope -/
structure Nice (l : List Stp) : Prop where
  f : ∀ f ∈ figs l, Plain f
  r : ∀ x ∈ rds l, PyData.strOk x = true
theorem Nice.app {a b : List Stp} (h : Nice (a ++ b)) : Nice a ∧ Nice b := by
  obtain ⟨f, r⟩ := h
  unfold figs at f
  unfold rds at r
  rw [List.flatMap_append] at f r
  exact ⟨⟨fun x hx => f x (List.mem_append_left _ hx), fun x hx => r x (List.mem_append_left _ hx)⟩, ⟨fun x hx => f x (List.mem_append_right _ hx), fun x hx => r x (List.mem_append_right _ hx)⟩⟩
theorem Nice.at {a : List Stp} (h : Nice (Stp.allA a)) : ∀ {s : Stp}, s ∈ a → Nice s.all := by
  induction a with
  | nil => exact fun z => nomatch z
  | cons t r ih =>
    rw [Stp.allA] at h
    intro s hs
    rcases List.mem_cons.mp hs with rfl | hs
    · exact h.app.1
    · exact ih h.app.2 hs
theorem Nice.tr {a b : List Stp} (h : Nice (Stp.tr a b).all) : Nice (Stp.allA a) ∧ Nice (Stp.allA b) := by
  rw [Stp.all] at h
  have z : Nice (Stp.allA a ++ Stp.allA b) := ⟨fun f hf => h.f f hf, fun x hx => h.r x hx⟩
  exact z.app
theorem nice_R : (∀ (s : Stp) (dp : Nat), s.R dp → Nice s.all) ∧ (∀ (a : List Stp) (dp : Nat), Stp.RA dp a → Nice (Stp.allA a)) := ⟨go1, go2⟩
where
  go1 : ∀ (s : Stp) (dp : Nat), s.R dp → Nice s.all
    | .set w sc st f, dp, h => by
      rw [Stp.R] at h
      rw [Stp.all]
      refine ⟨fun g hg => ?_, fun x hx => ?_⟩
      · rw [List.mem_singleton.mp (show g ∈ [f] from hg)]
        exact h.2.2.2.1
      · exact absurd (show x ∈ [] from hx) (by simp)
    | .rd sc nm, dp, h => by
      rw [Stp.R] at h
      rw [Stp.all]
      refine ⟨fun g hg => ?_, fun x hx => ?_⟩
      · exact absurd (show g ∈ [] from hg) (by simp)
      · rw [List.mem_singleton.mp (show x ∈ [nm] from hx)]
        exact word_ok h.2
    | .tr a b, dp, h => by
      rw [Stp.R] at h
      rw [Stp.all]
      have ha := go2 a _ h.2.2.1
      have hb := go2 b _ h.2.2.2
      refine ⟨fun g hg => ?_, fun x hx => ?_⟩
      · have hg2 : g ∈ figs (Stp.allA a ++ Stp.allA b) := hg
        unfold figs at hg2
        rw [List.flatMap_append, List.mem_append] at hg2
        exact hg2.elim (ha.f g) (hb.f g)
      · have hx2 : x ∈ rds (Stp.allA a ++ Stp.allA b) := hx
        unfold rds at hx2
        rw [List.flatMap_append, List.mem_append] at hx2
        exact hx2.elim (ha.r x) (hb.r x)
  go2 : ∀ (a : List Stp) (dp : Nat), Stp.RA dp a → Nice (Stp.allA a)
    | [], dp, h => by
      rw [Stp.allA]
      exact ⟨fun g hg => (nomatch hg), fun x hx => (nomatch hx)⟩
    | s :: r, dp, h => by
      rw [Stp.RA] at h
      rw [Stp.allA]
      have ha := go1 s _ h.1
      have hb := go2 r _ h.2
      refine ⟨fun g hg => ?_, fun x hx => ?_⟩
      · unfold figs at hg
        rw [List.flatMap_append, List.mem_append] at hg
        exact hg.elim (ha.f g) (hb.f g)
      · unfold rds at hx
        rw [List.flatMap_append, List.mem_append] at hx
        exact hx.elim (ha.r x) (hb.r x)
def OkN (ns : List Str) : Prop := ∀ x ∈ ns, PyData.strOk x = true
mutual
theorem sc_ok {nt : List Str} : ∀ (s : Stp) (k : Int) (kn l : List Str), s.sc nt k kn = .ok l → Nice s.all → OkN kn → OkN l
  | .set _ _ _ f, k, kn, l, h, n, o => by
    rw [Stp.sc] at h
    cases f with
    | str x =>
      unfold scF at h
      dsimp only at h
      split at h <;> cases h
      exact o
    | _ => cases h; exact o
  | .rd _ nm, k, kn, l, h, n, o => by
    rw [Stp.sc] at h
    split at h <;> cases h
    rw [Stp.all] at n
    exact fun x hx => (List.mem_append.mp hx).elim (o x) fun z => n.r x z
  | .tr a b, k, kn, l, h, n, o => by
    rw [Stp.sc] at h
    cases ha : Stp.scA nt a (k + 1) kn with
    | error e => rw [ha] at h; cases h
    | ok la =>
      rw [ha] at h
      dsimp only at h
      cases hb : Stp.scA nt b (k + 1 + (Stp.cntA a : Int)) kn with
      | error e => rw [hb] at h; cases h
      | ok lb =>
        rw [hb] at h
        cases h
        have z := scA_ok a _ _ _ ha n.tr.1 o
        exact fun x hx => z x (List.mem_filter.mp hx).1
theorem scA_ok {nt : List Str} : ∀ (a : List Stp) (k : Int) (kn l : List Str), Stp.scA nt a k kn = .ok l → Nice (Stp.allA a) → OkN kn → OkN l
  | [], k, kn, l, h, n, o => by
    rw [Stp.scA] at h
    cases h
    exact o
  | s :: r, k, kn, l, h, n, o => by
    rw [Stp.scA] at h
    rw [Stp.allA] at n
    cases hs : s.sc nt k kn with
    | error e => rw [hs] at h; cases h
    | ok m =>
      rw [hs] at h
      exact scA_ok r _ _ _ h n.app.2 (sc_ok s k kn m hs n.app.1 o)
end
/-- how a look at the scope is told: a pair, the names known behind as a tuple -/
def ScTold (K : PySem.W.Frag) (G : Hp) (r : Except Int (List Str)) (t : Addr) : Prop := ∃ (x : V) (q : Addr) (ls : List Str), SqT K G t [x, .ref q] ∧ SqT K G q (ls.map V.str) ∧ ((∃ e, r = .error e ∧ x = .int e) ∨ (r = .ok ls ∧ x = .non))
theorem scF_err {nt kn : List Str} {k : Int} {x : Str} (h : x ∈ nt) (g : x ∉ kn) : scF nt k kn (.str x) = .error k := by
  unfold scF
  exact if_pos ⟨h, g⟩
theorem scF_ok {nt kn : List Str} {k : Int} {f : PyData} (h : ∀ x, f = .str x → x ∈ nt → x ∈ kn) : scF nt k kn f = .ok kn := by
  unfold scF
  cases f with
  | str x =>
    dsimp only
    rw [if_neg fun z => z.2 (h x rfl z.1)]
  | _ => rfl
def spScopeA (K : PySem.W.Frag) (n : Nat) : Sp := fun vs H Q _ => ∃ (D : Addr) (v : V) (a : List Stp) (k : Int) (p q : Addr) (kn nt : List Str), vs = [v, .int k, .ref p, .ref q] ∧ Dt K D H v (.tuple (Stp.ds a)) ∧ Stp.GA a ∧ Stp.depA a < n ∧ n ≤ 4 ∧ Stp.cntA a ≤ 40 ∧ SqT K H p (kn.map V.str) ∧ SqT K H q (nt.map V.str) ∧
  kn.length + Stp.cntA a ≤ 100 ∧ nt.length ≤ 100 ∧ Nice (Stp.allA a) ∧ OkN kn ∧ OkN nt ∧ ∀ t H', Evl.Ex H H' → ScTold K H' (Stp.scA nt a k kn) t → Q (.ref t) H'
def spScopeS (K : PySem.W.Frag) (n : Nat) : Sp := fun vs H Q _ => ∃ (D : Addr) (v : V) (s : Stp) (k : Int) (p q : Addr) (kn nt : List Str), vs = [v, .int k, .ref p, .ref q] ∧ Dt K D H v s.d ∧ s.G ∧ s.dep < n ∧ n ≤ 4 ∧ s.cnt ≤ 40 ∧ SqT K H p (kn.map V.str) ∧ SqT K H q (nt.map V.str) ∧
  kn.length + s.cnt ≤ 100 ∧ nt.length ≤ 100 ∧ Nice s.all ∧ OkN kn ∧ OkN nt ∧ ∀ t H', Evl.Ex H H' → ScTold K H' (s.sc nt k kn) t → Q (.ref t) H'
def offV : Except Int (List Str) → V
  | .error e => .int e
  | .ok _ => .non
def spFirstOff (K : PySem.W.Frag) : Sp := fun vs H Q _ => ∃ (D : Addr) (v : V) (a : List Stp), vs = [v] ∧ Wg K D H v a ∧ Nice (Stp.allA a) ∧ ∀ H', Evl.Ex H H' → Q (offV (Stp.scA (rds (Stp.allA a)) a 0 [])) H'
end Qj
namespace Qj
open PySem PySem.Spec PyProof.Rows L2
/-! ### the law's own look at the scope: names in lists -/
mutual
/-- its figures are texts -/
def Stp.T : Stp → Prop
  | .set _ _ _ f => ∃ x, f = .str x
  | .rd _ _ => True
  | .tr a b => Stp.TA a ∧ Stp.TA b
def Stp.TA : List Stp → Prop
  | [] => True
  | s :: r => s.T ∧ Stp.TA r
end
theorem TA_iff : ∀ {a : List Stp}, Stp.TA a ↔ ∀ s ∈ a, s.T
  | [] => by rw [Stp.TA]; simp
  | s :: r => by rw [Stp.TA, TA_iff]; simp
def ScToldL (G : Hp) (K : PySem.W.Frag) (r : Except Int (List Str)) (t : Addr) : Prop := ∃ (x y : V), SqT K G t [x, y] ∧ ((∃ e, r = .error e ∧ x = .int e) ∨ (∃ ls, r = .ok ls ∧ x = .non ∧ ∃ q, y = .ref q ∧ G q = some (.lst (ls.map V.str))))
def spLScope (K : PySem.W.Frag) (n : Nat) : Sp := fun vs H Q _ => ∃ (D : Addr) (v : V) (a : List Stp) (k : Int) (p q : Addr) (kn nt : List Str), vs = [v, .int k, .ref p, .ref q] ∧ Dt K D H v (.tuple (Stp.ds a)) ∧ Stp.GA a ∧ Stp.depA a < n ∧ n ≤ 4 ∧ Stp.cntA a ≤ 40 ∧ H p = some (.lst (kn.map V.str)) ∧ H q = some (.lst (nt.map V.str)) ∧
  kn.length + Stp.cntA a ≤ 100 ∧ nt.length ≤ 100 ∧ Stp.TA a ∧ ∀ t H', Evl.Ex H H' → ScToldL H' K (Stp.scA nt a k kn) t → Q (.ref t) H'
end Qj
namespace Qj
open PySem PySem.Spec PyProof.Rows L2
/-! ### rows of lines and reads of few names -/
inductive D18 (ns : List Str) : Stp → Prop
  | rd {x : Str} (h : x ∈ ns) : D18 ns (.rd "D" x)
  | sl {x : Str} (h : x ∈ ns) : D18 ns (.set "slide" "C" 0 (.str x))
  | ln {x : Str} (h : x ∈ ns) : D18 ns (.set "line" "D" 0 (.str x))
structure Gd (ns : List Str) (dp c d : Nat) (p : List Stp) : Prop where
  g : Stp.GA p
  r : Stp.RA dp p
  n : Stp.NA ns p
  t : Stp.TA p
  c : Stp.cntA p ≤ c
  d : Stp.depA p ≤ d
theorem RA_iff {dp : Nat} : ∀ {a : List Stp}, Stp.RA dp a ↔ ∀ s ∈ a, s.R dp
  | [] => by rw [Stp.RA]; simp
  | s :: r => by rw [Stp.RA, RA_iff]; simp
theorem GA_iff : ∀ {a : List Stp}, Stp.GA a ↔ ∀ s ∈ a, s.G
  | [] => by rw [Stp.GA]; simp
  | s :: r => by rw [Stp.GA, GA_iff]; simp
theorem wfig_name {st : Int} {x : Str} (s0 : 0 ≤ st) (s1 : st < 3) (h : Nm x) : wFig (.int st) (.str x) = none := by
  unfold wFig
  have e : strOkD 3 (.int st) = true := by
    show (decide (0 ≤ st) && decide (st < 3)) = true
    rw [decide_eq_true s0, decide_eq_true s1]
    rfl
  have no : ∀ y : Str, 4 ≤ y.cps.size → (y == x) = false := fun y ly => beq_eq_false_iff_ne.mpr fun z => by
    subst z
    have := h.hi
    omega
  have e2 : endD (.str x) = false := by
    show (("left" : Str) == x || ("right" : Str) == x) = false
    rw [no _ (by decide), no _ (by decide)]
    rfl
  rw [e, if_pos rfl, e2, if_neg Bool.false_ne_true, low_name h, Bool.true_or, if_pos rfl]
theorem plain_name {x : Str} (h : Nm x) : Plain (.str x) := ⟨rfl, shaped_str (strOk_low h)⟩
theorem sh_name {x : Str} (h : Nm x) : shD (.str x) = true := by
  show decide (x.cps.size ≤ 1000) = true
  have := h.hi
  exact decide_eq_true (by omega)
theorem d18_all {ns : List Str} (hn : ∀ x ∈ ns, Nm x) {s : Stp} (h : D18 ns s) (dp : Nat) : s.G ∧ s.R dp ∧ s.N ns ∧ s.T ∧ s.cnt = 1 ∧ s.dep = 0 := by
  cases h with
  | @rd x h =>
    refine ⟨?_, ?_, N_rd h, by rw [Stp.T]; trivial, by rw [Stp.cnt], by rw [Stp.dep]⟩
    · rw [Stp.G]
      exact ⟨by decide, (hn _ h).hi⟩
    · rw [Stp.R]
      exact ⟨by decide +kernel, low_name (hn _ h)⟩
  | @sl x h =>
    refine ⟨?_, ?_, ?_, by rw [Stp.T]; exact ⟨x, rfl⟩, by rw [Stp.cnt], by rw [Stp.dep]⟩
    · rw [Stp.G]
      exact ⟨.inr rfl, by decide, by decide, by decide, .s (Nat.le_trans (hn _ h).hi (by decide))⟩
    · rw [Stp.R]
      exact ⟨.inr rfl, by decide +kernel, wfig_name (by decide) (by decide) (hn _ h), plain_name (hn _ h), sh_name (hn _ h)⟩
    · rw [Stp.N]
      exact ⟨.inr rfl, 0, .nm h⟩
  | @ln x h =>
    refine ⟨?_, ?_, ?_, by rw [Stp.T]; exact ⟨x, rfl⟩, by rw [Stp.cnt], by rw [Stp.dep]⟩
    · rw [Stp.G]
      exact ⟨.inl rfl, by decide, by decide, by decide, .s (Nat.le_trans (hn _ h).hi (by decide))⟩
    · rw [Stp.R]
      exact ⟨.inl rfl, by decide +kernel, wfig_name (by decide) (by decide) (hn _ h), plain_name (hn _ h), sh_name (hn _ h)⟩
    · rw [Stp.N]
      exact ⟨.inl rfl, 0, .nm h⟩
theorem gd_row {ns : List Str} (hn : ∀ x ∈ ns, Nm x) {p : List Stp} (h : ∀ s ∈ p, D18 ns s) (dp : Nat) : Gd ns dp p.length 0 p := by
  refine ⟨GA_iff.mpr fun s hs => (d18_all hn (h s hs) dp).1, RA_iff.mpr fun s hs => (d18_all hn (h s hs) dp).2.1, NA_iff.mpr fun s hs => (d18_all hn (h s hs) dp).2.2.1, TA_iff.mpr fun s hs => (d18_all hn (h s hs) dp).2.2.2.1, ?_, ?_⟩
  · induction p with
    | nil => exact Nat.le_refl _
    | cons s r ih =>
      have z := ih fun t ht => h t (List.mem_cons_of_mem _ ht)
      have y := (d18_all hn (h s (List.mem_cons_self ..)) dp).2.2.2.2.1
      rw [Stp.cntA, List.length_cons]
      omega
  · induction p with
    | nil => exact Nat.le_refl _
    | cons s r ih =>
      have z := ih fun t ht => h t (List.mem_cons_of_mem _ ht)
      have y := (d18_all hn (h s (List.mem_cons_self ..)) dp).2.2.2.2.2
      rw [Stp.depA]
      omega
theorem Gd.mono {ns : List Str} {dp c d c' d' : Nat} {p : List Stp} (h : Gd ns dp c d p) (hc : c ≤ c') (hd : d ≤ d') : Gd ns dp c' d' p := ⟨h.g, h.r, h.n, h.t, Nat.le_trans h.c hc, Nat.le_trans h.d hd⟩
theorem Gd.app {ns : List Str} {dp c d c' d' : Nat} {p q : List Stp} (h : Gd ns dp c d p) (k : Gd ns dp c' d' q) : Gd ns dp (c + c') (max d d') (p ++ q) := by
  have h5 := h.c
  have k5 := k.c
  have h6 := h.d
  have k6 := k.d
  refine ⟨GA_two h.g k.g, RA_iff.mpr fun s hs => (List.mem_append.mp hs).elim (RA_iff.mp h.r s) (RA_iff.mp k.r s), NA_app h.n k.n, TA_iff.mpr fun s hs => (List.mem_append.mp hs).elim (TA_iff.mp h.t s) (TA_iff.mp k.t s), ?_, ?_⟩
  · rw [cntA_two]
    omega
  · rw [depA_two]
    omega
theorem Gd.tr {ns : List Str} {dp c d c' d' : Nat} {p q : List Stp} (h : Gd ns (dp + 1) c d p) (k : Gd ns (dp + 1) c' d' q) (ne : p ≠ []) (l : dp < 2) : Gd ns dp (1 + c + c') (1 + max d d') [.tr p q] := by
  have h5 := h.c
  have k5 := k.c
  have h6 := h.d
  have k6 := k.d
  refine ⟨GA_one (by rw [Stp.G]; exact ⟨h.g, k.g⟩), ?_, NA_one (N_tr h.n k.n), ?_, ?_, ?_⟩
  · rw [Stp.RA, Stp.RA, Stp.R]
    exact ⟨⟨ne, l, h.r, k.r⟩, trivial⟩
  · rw [Stp.TA, Stp.TA, Stp.T]
    exact ⟨⟨h.t, k.t⟩, trivial⟩
  · rw [Stp.cntA, Stp.cntA, Stp.cnt]
    omega
  · rw [Stp.depA, Stp.depA, Stp.dep]
    omega
def spRow18 (K : PySem.W.Frag) : Sp := fun vs H Q _ => ∃ (D F : Addr) (ns : List Str) (n : Nat), vs = [.ref D, .ref F, .int (n : Int)] ∧ DeckAt H D ∧ H F = some (.lst (ns.map V.str)) ∧ F ≠ D ∧ ns ≠ [] ∧ ns.length ≤ 100 ∧ n ≤ 2 ∧
  ∀ (u : V) (p : List Stp) (H' : Hp), p.length = n → (∀ s ∈ p, D18 ns s) → Dt K D H' u (.tuple (Stp.ds p)) → Bu D H H' → DeckAt H' D → Q u H'
def spDrawn18 (K : PySem.W.Frag) : Sp := fun vs H Q _ => ∃ (D F : Addr) (ns : List Str), vs = [.ref D, .ref F] ∧ DeckAt H D ∧ H F = some (.lst (ns.map V.str)) ∧ F ≠ D ∧ ns ≠ [] ∧ ns.length ≤ 100 ∧ (∀ x ∈ ns, Nm x) ∧
  ∀ (u : V) (p : List Stp) (H' : Hp), Gd ns 0 10 2 p → Stp.endsA p = true → Dt K D H' u (.tuple (Stp.ds p)) → Bu D H H' → DeckAt H' D → Q u H'
mutual
theorem sc_err {nt : List Str} : ∀ (s : Stp) (k : Int) (kn : List Str) (e : Int), s.sc nt k kn = .error e → k ≤ e ∧ e < k + (s.cnt : Int)
  | .set _ _ _ f, k, kn, e, h => by
    rw [Stp.sc] at h
    rw [Stp.cnt]
    cases f with
    | str x =>
      unfold scF at h
      dsimp only at h
      split at h <;> cases h
      omega
    | _ => cases h
  | .rd _ nm, k, kn, e, h => by
    rw [Stp.sc] at h
    rw [Stp.cnt]
    split at h <;> cases h
    omega
  | .tr a b, k, kn, e, h => by
    rw [Stp.sc] at h
    rw [Stp.cnt]
    cases ha : Stp.scA nt a (k + 1) kn with
    | error e2 =>
      rw [ha] at h
      cases h
      have := scA_err a _ _ _ ha
      omega
    | ok la =>
      rw [ha] at h
      dsimp only at h
      cases hb : Stp.scA nt b (k + 1 + (Stp.cntA a : Int)) kn with
      | error e2 =>
        rw [hb] at h
        cases h
        have := scA_err b _ _ _ hb
        omega
      | ok lb => rw [hb] at h; cases h
theorem scA_err {nt : List Str} : ∀ (a : List Stp) (k : Int) (kn : List Str) (e : Int), Stp.scA nt a k kn = .error e → k ≤ e ∧ e < k + (Stp.cntA a : Int)
  | [], k, kn, e, h => by
    rw [Stp.scA] at h
    cases h
  | s :: r, k, kn, e, h => by
    rw [Stp.scA] at h
    rw [Stp.cntA]
    cases hs : s.sc nt k kn with
    | error e2 =>
      rw [hs] at h
      cases h
      have := sc_err s _ _ _ hs
      omega
    | ok m =>
      rw [hs] at h
      have := scA_err r _ _ _ h
      have := cnt_pos s
      omega
end
/-- what a drawn working's error is -/
def offD : Except Int (List Str) → PyData
  | .error e => .tuple [.int e, .str "scope"]
  | .ok _ => .none
theorem werr_18 {ns : List Str} {a : List Stp} {c d : Nat} (hn : ∀ x ∈ ns, Nm x) (l : ns.length ≤ 3) (g : Gd ns 0 c d a) (hc : c ≤ 10) (e : Stp.endsA a = true) : WErr a (offD (Stp.scA (rds (Stp.allA a)) a 0 [])) := by
  have gc := g.c
  cases hs : Stp.scA (rds (Stp.allA a)) a 0 [] with
  | error k => exact .scope (by omega) e hs
  | ok m =>
    refine .ok (by omega) e hs (M := ns) (fun x hx => ?_) l
    obtain ⟨f, wd, _⟩ := hx
    obtain ⟨w, sc, st, hs⟩ := figs_mem.mp f
    have z := allA_N g.n _ hs
    rw [Stp.N] at z
    obtain ⟨_, st', gf⟩ := z
    exact fig_name gf wd
theorem szd_off {r : Except Int (List Str)} (h : ∀ e, r = .error e → e.natAbs < 2 ^ 8) : Szd (offD r) 8000 50 ∧ (offD r).hasDict = false := by
  cases r with
  | ok _ => exact ⟨(szd_okd okd_non).mono (by decide) (by decide), rfl⟩
  | error e =>
    have si : Szd (.int e) 8 0 := szd_okd (okd_int (k := 8) (h e rfl) (by decide) (by decide))
    exact ⟨(szd_tup2 si (szd_str (x := "scope") (n := 10) (by decide))).mono (by decide) (by decide), rfl⟩
end Qj
namespace Qj
open PySem PySem.Spec PyProof.Rows L2
theorem nm_one {c : Nat} (h : 97 ≤ c ∧ c ≤ 122) : Nm ⟨#[c]⟩ := ⟨Nat.le_refl 1, (show 1 ≤ 3 by decide), fun x hx => by
  have : x = c := by simpa using hx
  subst this
  exact h⟩
def both18 : List Stp := [.tr [.rd "D" "m"] [.rd "C" "m"], .set "line" "D" 0 (.str "m"), .rd "D" "r"]
def one18 : List Stp := [.tr [.rd "D" "m"] [.set "line" "C" 0 (.str "k")], .set "line" "D" 0 (.str "m"), .rd "D" "r"]
theorem nm_m : Nm ("m" : Str) := nm_one (c := 109) (by decide)
theorem nm_k : Nm ("k" : Str) := nm_one (c := 107) (by decide)
theorem nm_r : Nm ("r" : Str) := nm_one (c := 114) (by decide)
theorem line_R {sc x : Str} (h : dWord capZ (.str sc) = true) (n : Nm x) (dp : Nat) : (Stp.set "line" sc 0 (.str x)).R dp := by
  rw [Stp.R]
  exact ⟨.inl rfl, h, wfig_name (by decide) (by decide) n, plain_name n, sh_name n⟩
theorem read_R {sc x : Str} (h : dWord capZ (.str sc) = true) (n : Nm x) (dp : Nat) : (Stp.rd sc x).R dp := by
  rw [Stp.R]
  exact ⟨h, low_name n⟩
theorem cap_D : dWord capZ (.str "D") = true := by decide +kernel
theorem cap_C : dWord capZ (.str "C") = true := by decide +kernel
theorem both_R : Stp.RA 0 both18 := by
  unfold both18
  simp only [Stp.RA, Stp.R.eq_3]
  exact ⟨⟨by simp, by decide, ⟨read_R cap_D nm_m _, trivial⟩, ⟨read_R cap_C nm_m _, trivial⟩⟩, line_R cap_D nm_m _, read_R cap_D nm_r _, trivial⟩
theorem one_R : Stp.RA 0 one18 := by
  unfold one18
  simp only [Stp.RA, Stp.R.eq_3]
  exact ⟨⟨by simp, by decide, ⟨read_R cap_D nm_m _, trivial⟩, ⟨line_R cap_C nm_k _, trivial⟩⟩, line_R cap_D nm_m _, read_R cap_D nm_r _, trivial⟩
theorem G_line {sc x : Str} (h : sc.length ≤ 3) (n : Nm x) : (Stp.set "line" sc 0 (.str x)).G := by
  rw [Stp.G]
  exact ⟨.inl rfl, h, by decide, by decide, .s (Nat.le_trans n.hi (by decide))⟩
theorem G_read {sc x : Str} (h : sc.length ≤ 3) (n : Nm x) : (Stp.rd sc x).G := by
  rw [Stp.G]
  exact ⟨h, n.hi⟩
theorem both_G : Stp.GA both18 := by
  unfold both18
  simp only [Stp.GA, Stp.G.eq_3]
  exact ⟨⟨⟨G_read (by decide) nm_m, trivial⟩, ⟨G_read (by decide) nm_m, trivial⟩⟩, G_line (by decide) nm_m, G_read (by decide) nm_r, trivial⟩
theorem one_G : Stp.GA one18 := by
  unfold one18
  simp only [Stp.GA, Stp.G.eq_3]
  exact ⟨⟨⟨G_read (by decide) nm_m, trivial⟩, ⟨G_line (by decide) nm_k, trivial⟩⟩, G_line (by decide) nm_m, G_read (by decide) nm_r, trivial⟩
theorem both_sc : ∃ l, Stp.scA (rds (Stp.allA both18)) both18 0 [] = .ok l := ⟨_, rfl⟩
theorem one_sc : Stp.scA (rds (Stp.allA one18)) one18 0 [] = .error 3 := rfl
theorem both_W : WErr both18 .none := by
  obtain ⟨l, h⟩ := both_sc
  refine .ok (M := []) (by decide) rfl h (fun x hx => ?_) (by decide)
  obtain ⟨f, _, no⟩ := hx
  have e : figs (Stp.allA both18) = [.str "m"] := rfl
  rw [e, List.mem_singleton] at f
  injection f with f
  subst f
  have e2 : rds (Stp.allA both18) = [("m" : Str), "m", "r"] := rfl
  exact absurd (by rw [e2]; exact List.mem_cons_self ..) no
theorem one_W : WErr one18 (.tuple [.int 3, .str "scope"]) := .scope (by decide) rfl one_sc
end Qj
namespace Qj
open PySem PySem.Spec PyProof.Rows L2
theorem szd_okdS {d : PyData} {n m : Nat} (h : Szd d n m) (g : d.hasDict = false) : Okd d n m := ⟨h.sh, g, h.lv, h.wt, h.dp⟩
theorem okd_end18 : Okd (.list [.none, .tuple [.int 3, .str "scope"]]) 1000 20 := (okd_lst (oka_cons okd_non (oka_cons (okd_tup (oka_cons (okd_int (k := 8) (by decide) (by decide) (by decide)) (oka_cons (szd_okdS (szd_str (x := "scope") (n := 10) (by decide)) rfl) oka_nil))) oka_nil))).mono (by decide) (by decide)
end Qj
/-! ### sorted of pairs of a name and anything, the names unlike -/
namespace SrtN
open PySem PySem.Spec PyProof.Rows L2 SrtO
section
variable {prog : Program} {w : World} {A : Around} {E : Value → Shared → Prop} {s : Shared}
def IsNamed (h : Heap) (v : Value) (x : Str) : Prop := ∃ (a : Addr) (o : Obj) (t : Tok) (f : Value) (n : Nat), v = .ref a ∧ h.get? a = some o ∧ o.cls = .type "tuple" ∧ o.data = .seq #[.str x t, f] n
theorem IsNamed.keeps {h h' : Heap} {v : Value} {x : Str} (p : IsNamed h v x) (k : ∀ b o, h.get? b = some o → o.cls = .type "tuple" → h'.get? b = some o) : IsNamed h' v x := by
  obtain ⟨a, o, t, f, n, e, ho, hc, hd⟩ := p
  exact ⟨a, o, t, f, n, e, k _ _ ho hc, hc, hd⟩
def ltN (nm : Value → Str) (v u : Value) : Bool := decide ((nm v).cps.toList < (nm u).cps.toList)
theorem swo_name (nm : Value → Str) : Swo (ltN nm) := by
  refine ⟨fun x y h => ?_, fun x y z h1 h2 => ?_⟩
  · have a := of_decide_eq_true h
    exact decide_eq_false fun b => List.lt_irrefl _ (List.lt_trans a b)
  · have a := of_decide_eq_false h1
    have b := of_decide_eq_false h2
    refine decide_eq_false fun c => ?_
    have a2 := List.not_lt.mp a
    have b2 := List.not_lt.mp b
    exact absurd c (List.not_lt.mpr (List.le_trans a2 b2))
theorem named_cmp {vs : List Value} {nm : Value → Str} (hp : ∀ v ∈ vs, IsNamed s.heap v (nm v)) (inj : ∀ u ∈ vs, ∀ v ∈ vs, nm u = nm v → u = v) : Cmp prog w A s (tuples' true) (fun p => p.1 ∈ vs) (lt2 (ltN nm)) := by
  intro p q hm hm'
  have h1 := hp _ hm
  have h2 := hp _ hm'
  have hj := inj _ hm _ hm'
  show wpAny (model prog w) A (keyLt' (tuples' true) p.1 q.1) (fun r s' => s' = s ∧ r = decide ((nm p.1).cps.toList < (nm q.1).cps.toList)) (fun _ _ => False) s
  generalize nm p.1 = x at h1 hj ⊢
  generalize nm q.1 = x' at h2 hj ⊢
  obtain ⟨a, o, t, f, n, e, ho, hc, hd⟩ := h1
  obtain ⟨a', o', t', f', n', e', ho', hc', hd'⟩ := h2
  rw [e, e'] at hj
  rw [e, e']
  refine PySem.W.kat_lt ho hd ho' hd' ?_
  show PySem.W.KatLex prog w A true (decide (2 < 2)) _ [(.str x t, .str x' t'), (f, f')] 0 s
  refine PySem.W.kat_cons (wpAny_eqBool_str ?_)
  refine PySem.W.kat_go (fun e1 => ?_) (fun e1 => ?_)
  · have ex : x = x' := of_decide_eq_true e1
    have ea : a = a' := by
      have z := hj ex
      injection z
    subst ea
    subst ex
    rw [ho] at ho'
    cases ho'
    rw [hd] at hd'
    have ef : f = f' := by
      injection hd' with z
      have z2 := congrArg Array.toList z
      simp only [List.cons.injEq] at z2
      exact z2.2.1
    subst ef
    refine PySem.W.kat_yes (PySem.W.kat_cons (SeqAt.EqAt.same _ prog w _ _ ?_))
    exact PySem.W.kat_go (fun _ => PySem.W.kat_yes (PySem.W.kat_nil ⟨rfl, (decide_eq_false (List.lt_irrefl _)).symm⟩)) (fun z => by cases z)
  · exact PySem.W.kat_no (oneLt_any_str ⟨rfl, rfl⟩)
theorem firstsN {h : Heap} : ∀ {vs : List Value}, (∀ v ∈ vs, ∃ x, IsNamed h v x) → ∃ fs : List Value, PySem.W.KatTups h vs fs ∧ fs.length = vs.length ∧ ∀ f ∈ fs, ∃ x t, f = Value.str x t
  | [], _ => ⟨[], PySem.W.KatTups.nil, rfl, fun _ hm => by simp at hm⟩
  | v :: vs, hp => by
    obtain ⟨fs, h1, h2, h3⟩ := firstsN (vs := vs) fun v' hm => hp v' (List.mem_cons_of_mem _ hm)
    obtain ⟨x, a, o, t, f, n, e, ho, hc, hd⟩ := hp v (List.mem_cons_self ..)
    subst e
    refine ⟨.str x t :: fs, PySem.W.KatTups.cons ho hc hd rfl h1, by rw [List.length_cons, List.length_cons, h2], fun g hg => ?_⟩
    rcases List.mem_cons.mp hg with rfl | hg
    · exact ⟨x, t, rfl⟩
    · exact h3 g hg
theorem named_sortable {a : Addr} {vs : List Value} {nm : Value → Str} (h0 : 0 < vs.length) (hp : ∀ v ∈ vs, IsNamed s.heap v (nm v)) (inj : ∀ u ∈ vs, ∀ v ∈ vs, nm u = nm v → u = v) (ha : ∀ o, s.heap.get? a = some o → o.cls ≠ .type "tuple") : SortableO prog w A s a vs (ltN nm) := by
  intro h' keep
  have hp' : ∀ v ∈ vs, IsNamed h' v (nm v) := fun v hm => (hp v hm).keeps fun b o e c => keep b o (fun z => by subst z; exact ha o e c) e
  obtain ⟨fs, h1, h2, h3⟩ := firstsN fun v hm => ⟨_, hp' v hm⟩
  refine ⟨tuples' true, fun Q E hq => ?_, named_cmp (s := { s with heap := h' }) hp' inj⟩
  refine PySem.W.kat_kind (T := .type "str") h1 (by omega) (fun f hm => ?_) (by rfl) ?_
  · obtain ⟨x, t, rfl⟩ := h3 f hm
    exact PySem.W.Looks.now
  · have e : (Value.type "str" != Value.type "tuple") = true := by first | decide +kernel | rfl | decide
    rw [e]
    exact hq
theorem sorted_named {l : Addr} {vs : List Value} {nm : Value → Str} {Q : Value → Shared → Prop} (hl : s.heap.IsList l vs.toArray) (hz : vs.length ≤ sizeLine) (hp : ∀ v ∈ vs, IsNamed s.heap v (nm v)) (inj : ∀ u ∈ vs, ∀ v ∈ vs, nm u = nm v → u = v)
    (h : ∀ (h' : Heap) (d : Addr) (out : List Value), Srtd (ltN nm) out → out.Perm vs → (∀ b o, s.heap.get? b = some o → h'.get? b = some o) → s.heap.objs.size ≤ d → (∃ n, h'.get? d = some (seqObj "list" out.toArray n)) → Q (.ref d) { s with heap := h' }) :
    wpAny (model prog w) A (call (.builtin "sorted") [.ref l]) Q E s := by
  refine sorted_ord (swo_name nm) hl hz (fun h2 h₁ a ha kk => ?_) fun out hs hb => ?_
  · refine named_sortable (s := { s with heap := h₁ }) (by omega) (fun v hm => (hp v hm).keeps fun b o e _ => (kk b o e).2) inj fun o e => ?_
    have e' : some o = some (seqObj "list" vs.toArray 0) := e.symm.trans ha
    cases e'
    intro c
    exact absurd (Value.type.inj c) (by decide)
  · exact h _ _ out hs hb.perm (fun b o e => sortedAll_old e) (Nat.le_succ _) (sortedAll_at s.heap vs out.toArray)
end
end SrtN
namespace Qj
open PySem PySem.Spec PyProof.Rows L2
/-- the text at the front of the tuple that v refers to -/
def nmH (h : Heap) : Value → Str
  | .ref a => match h.get? a with
    | some o => (match o.data with
      | .seq xs _ => (match xs.toList with
        | .str x _ :: _ => x
        | _ => Str.empty)
      | _ => Str.empty)
    | none => Str.empty
  | _ => Str.empty
theorem nmH_at {h : Heap} {a : Addr} {o : Obj} {x : Str} {t : Tok} {f : Value} {n : Nat} (g : h.get? a = some o) (d : o.data = .seq #[.str x t, f] n) : nmH h (.ref a) = x := by
  unfold nmH
  simp only [g, d]
theorem nd_at {ns : List Str} (nd : ns.Nodup) {i j : Nat} {x : Str} (h : ns[i]? = some x) (g : ns[j]? = some x) : i = j := by
  induction ns generalizing i j with
  | nil => cases h
  | cons y r ih =>
    rw [List.nodup_cons] at nd
    cases i with
    | zero =>
      cases j with
      | zero => rfl
      | succ j =>
        cases h
        exact absurd (List.mem_iff_getElem?.mpr ⟨j, g⟩) nd.1
    | succ i =>
      cases j with
      | zero =>
        cases g
        exact absurd (List.mem_iff_getElem?.mpr ⟨i, h⟩) nd.1
      | succ j => exact congrArg Nat.succ (ih nd.2 h g)
/-- sorted(xs), xs a list of pairs of a name and anything, the names unlike: by the names; each item goes with what it is -/
def rSortN (K : PySem.W.Frag) : List V → Hp → VK → Prop := fun vs H Q => ∃ (a : Addr) (zs : List (V × PyData)), vs = [V.ref a] ∧ H a = some (.lst (zs.map (·.1))) ∧ (∀ z ∈ zs, ∃ t f, z.1 = V.ref t ∧ SqT K H t [.str (nmD z.2), f]) ∧ (zs.map fun z => nmD z.2).Nodup ∧
  ∀ (ws : List (V × PyData)) p, ws.Perm zs → (ws.map fun z => nmD z.2).Pairwise leS → H p = none → Q (.ref p) (upd H p (.lst (ws.map (·.1))))
theorem cr_sortN {X : Cx} (K : PySem.W.Frag) (hK : X.K = K) : CallR X (.builtin "sorted") (rSortN K) := by
  subst hK
  intro pins s σ H vs us Q I r h
  obtain ⟨a, zs, rfl, hs, hx, nd, q⟩ := h
  obtain ⟨its, rv, hl, hz⟩ := I.list (.of hs)
  obtain ⟨u, rfl, ru⟩ := vals1 r
  obtain rfl : u = Value.ref a := ru
  obtain ⟨e1, e2⟩ := refs_back rv fun x m => by
    obtain ⟨z, hz, rfl⟩ := List.mem_map.mp m
    obtain ⟨t, f, e, _⟩ := hx z hz
    exact ⟨t, e⟩
  -- each item: its name, and what it is
  have at_ : ∀ z ∈ zs, ∀ u, backV u = z.1 → (∃ b, u = Value.ref b) → SrtN.IsNamed s.heap u (nmD z.2) ∧ nmH s.heap u = nmD z.2 := by
    intro z hz u hu hb
    obtain ⟨b, rfl⟩ := hb
    obtain ⟨t', f, e, ht⟩ := hx z hz
    have et : b = t' := by
      have e' : V.ref b = V.ref t' := (show V.ref b = z.1 from hu).trans e
      injection e'
    subst et
    obtain ⟨its2, r2, ⟨o, ho, hc, n, hd⟩, _⟩ := I.tuple ht
    obtain ⟨u1, u2, rfl, ri, rj⟩ := vals2 r2
    obtain ⟨t1, rfl⟩ := ri
    exact ⟨⟨b, o, t1, u2, n, rfl, ho, hc, hd⟩, nmH_at ho hd⟩
  have len : its.length = zs.length := by
    have := congrArg List.length e1
    simpa using this.symm
  have pick : ∀ (i : Nat) (u : Value) , its[i]? = some u → ∃ z, zs[i]? = some z ∧ backV u = z.1 := by
    intro i u hu
    have z := congrArg (fun l => l[i]?) e1
    simp only [List.getElem?_map, hu, Option.map_some] at z
    obtain ⟨y, hy, ey⟩ := Option.map_eq_some_iff.mp z
    exact ⟨y, hy, ey.symm⟩
  have g0 : ∀ u, ∃ z : V × PyData, u ∈ its → z ∈ zs ∧ backV u = z.1 := by
    intro u
    by_cases hu : u ∈ its
    · obtain ⟨i, hi⟩ := List.mem_iff_getElem?.mp hu
      obtain ⟨z, hz, e⟩ := pick i u hi
      exact ⟨z, fun _ => ⟨List.mem_iff_getElem?.mpr ⟨i, hz⟩, e⟩⟩
    · exact ⟨(.non, .none), fun z => absurd z hu⟩
  obtain ⟨g, hg⟩ := Classical.axiomOfChoice g0
  have nmg : ∀ u ∈ its, nmH s.heap u = nmD (g u).2 := fun u hu => (at_ _ (hg u hu).1 u (hg u hu).2 (e2 u hu)).2
  have same : its.map g = zs := by
    refine List.ext_getElem? fun i => ?_
    rw [List.getElem?_map]
    cases hi : its[i]? with
    | none =>
      have : zs.length ≤ i := by
        have := List.getElem?_eq_none_iff.mp hi
        omega
      rw [List.getElem?_eq_none_iff.mpr this]
      rfl
    | some u =>
      obtain ⟨z, hz, e⟩ := pick i u hi
      have hu := List.mem_iff_getElem?.mpr ⟨i, hi⟩
      obtain ⟨m1, m2⟩ := hg u hu
      obtain ⟨j, hj⟩ := List.mem_iff_getElem?.mp m1
      have n1 := (at_ _ m1 u m2 (e2 u hu)).2
      have n2 := (at_ z (List.mem_iff_getElem?.mpr ⟨i, hz⟩) u e (e2 u hu)).2
      have ij : i = j := nd_at nd (x := nmD z.2) (by rw [List.getElem?_map, hz]; rfl) (by rw [List.getElem?_map, hj, ← n2, n1]; rfl)
      subst ij
      rw [hz]
      rw [hj] at hz
      injection hz with hz
      rw [← hz]
      rfl
  refine SrtN.sorted_named (nm := nmH s.heap) hl.isList (by rw [← rv.length]; exact hz) (fun v hv => ?_) (fun u hu v hv z => ?_) fun h' d out h1 h2 kp hd hn => ?_
  · have y := at_ _ (hg v hv).1 v (hg v hv).2 (e2 v hv)
    rw [y.2]
    exact y.1
  · rw [nmg u hu, nmg v hv] at z
    obtain ⟨i, hi⟩ := List.mem_iff_getElem?.mp hu
    obtain ⟨j, hj⟩ := List.mem_iff_getElem?.mp hv
    have zi : zs[i]? = some (g u) := by rw [← same, List.getElem?_map, hi]; rfl
    have zj : zs[j]? = some (g v) := by rw [← same, List.getElem?_map, hj]; rfl
    have ij : i = j := nd_at nd (x := nmD (g u).2) (by rw [List.getElem?_map, zi]; rfl) (by rw [List.getElem?_map, zj, z]; rfl)
    subst ij
    rw [hi] at hj
    exact Option.some.inj hj
  · have h3 : ∀ u ∈ out, ∃ a, u = Value.ref a := fun u hu => e2 u (h2.mem_iff.mp hu)
    obtain ⟨n, hn⟩ := hn
    have wp : (out.map g).Perm zs := by
      have := h2.map g
      rwa [same] at this
    have wf : (out.map g).map (·.1) = out.map backV := by
      rw [List.map_map]
      exact List.map_congr_left fun u hu => (hg u (h2.mem_iff.mp hu)).2.symm
    refine ⟨.ref d, upd H d (.lst (out.map backV)), I.laid (t' := s.toks) kp hd ⟨?_, out, n, vals_back h3, hn⟩, rfl, ?_⟩
    · rw [List.length_map, h2.length_eq, len]
      have := hz
      rw [List.length_map] at this
      exact this
    · rw [← wf]
      refine q (out.map g) d wp ?_ (I.hok.fresh hd)
      rw [List.map_map, List.pairwise_map]
      refine List.Pairwise.imp_of_mem (fun {x y} hx hy z => ?_) h1
      have nx := nmg x (h2.mem_iff.mp hx)
      have ny := nmg y (h2.mem_iff.mp hy)
      have zz := List.not_lt.mp (of_decide_eq_false z)
      rw [nx, ny] at zz
      exact zz
end Qj
namespace Qj
open PySem PySem.Spec PyProof.Rows L2
/-! ### an __init__ with two defaults -/
structure IniD (K : PySem.W.Frag) (C : Addr) (qual : Str) (st : Stmt) (ps : List Str) (d1 d2 : V) where
  f : Addr
  fd : FuncData
  F : FunD K "__init__" qual (defArgs st) (defBody st) (defScope st) [d1, d2] [] f fd
  m : Meth K C "__init__" f
  l1 : List Value
  v1 : Vals [d1, d2] l1
  b1 : Binds K fd ps l1
  l2 : List Value
  v2 : Vals [d2] l2
  b2 : Binds K fd ps l2
  b3 : Binds K fd ps []
noncomputable def iniD_mk {K : PySem.W.Frag} {C : Addr} {qual : Str} {st : Stmt} {ps : List Str} {d1 d2 : V} {f T : Addr} {oc : Value} {od an : Option Addr} {osl : Array (Option Value)} {kV dc pm cd ct u1 u2 : Value} {o : Obj} {n : Nat}
    (a : PySem.W.findIn K (.ref C) "__init__" = some (some (.ref f))) (i : PySem.W.isFn K (.ref f) = true) (l : K.lookup f = some ⟨oc, od, .func (PySem.W.fnOf "__init__" qual (defArgs st) (defBody st) (defScope st) (.ref T) kV dc pm an cd ct), osl⟩) (c : PySem.W.codeIn K cd qual = true) (k : PySem.W.keepIn K (.ref f) = true)
    (lT : K.lookup T = some o) (oT : o.data = .seq #[u1, u2] n) (r1 : RelV d1 u1) (r2 : RelV d2 u2) (l3 : ps.length = 3)
    (h1 : ∀ (T : Addr) (kV doc pm : Value) (an : Option Addr) (cdv ct : Value) (us its : List Value), us.length = 1 → its.length = 2 →
      ∃ k, bindArgs (PySem.W.fnOf "__init__" qual (defArgs st) (defBody st) (defScope st) (.ref T) kV doc pm an cdv ct) ⟨us, []⟩ = seqItems? (.ref T) >>= k ∧ k (some its.toArray) = pure (ps.zip (us ++ its.drop 0)))
    (h2 : ∀ (T : Addr) (kV doc pm : Value) (an : Option Addr) (cdv ct : Value) (us its : List Value), us.length = 2 → its.length = 2 →
      ∃ k, bindArgs (PySem.W.fnOf "__init__" qual (defArgs st) (defBody st) (defScope st) (.ref T) kV doc pm an cdv ct) ⟨us, []⟩ = seqItems? (.ref T) >>= k ∧ k (some its.toArray) = pure (ps.zip (us ++ its.drop 1)))
    (h3 : ∀ (T : Addr) (kV doc pm : Value) (an : Option Addr) (cdv ct : Value) (us its : List Value), us.length = 3 → its.length = 2 →
      ∃ k, bindArgs (PySem.W.fnOf "__init__" qual (defArgs st) (defBody st) (defScope st) (.ref T) kV doc pm an cdv ct) ⟨us, []⟩ = seqItems? (.ref T) >>= k ∧ k (some its.toArray) = pure (ps.zip (us ++ its.drop 2))) : IniD K C qual st ps d1 d2 :=
  have F : FunD K "__init__" qual (defArgs st) (defBody st) (defScope st) [d1, d2] [] f (PySem.W.fnOf "__init__" qual (defArgs st) (defBody st) (defScope st) (.ref T) kV dc pm an cd ct) :=
    ⟨⟨oc, od, .ref T, kV, dc, pm, an, cd, ct, osl, rfl, l, c, .inr ⟨by simp, T, o, [u1, u2], n, rfl, lT, oT, .cons r1 (.cons r2 .nil)⟩, .inl rfl⟩, k⟩
  have e1 := F.binds1 (ps := ps) 1 0 (by simp) (by rw [l3]; rfl) h1
  have e2 := F.binds1 (ps := ps) 2 1 (by simp) (by rw [l3]; rfl) h2
  have e3 := F.binds1 (ps := ps) 3 2 (by simp) (by rw [l3]; rfl) h3
  { f := f, fd := _, F := F, m := ⟨a, i, k⟩, l1 := Classical.choose e1, v1 := (Classical.choose_spec e1).1, b1 := (Classical.choose_spec e1).2, l2 := Classical.choose e2, v2 := (Classical.choose_spec e2).1, b2 := (Classical.choose_spec e2).2,
    b3 := by
      obtain ⟨ds, v, b⟩ := e3
      cases v
      exact b }
/-! ### the terms of a form -/
def dTerm : PyData → Bool
  | .tuple [n, f] => dWord lowZ n && dFrac f
  | _ => false
def topD : PyData → Int
  | .tuple [_, .tuple [.int t, _]] => t
  | _ => 0
def dTerms : PyData → Bool
  | .tuple ds => ds.all dTerm && decide ((ds.map nmD).Nodup)
  | _ => false
def kept (ds : List PyData) : List PyData := ds.filter fun d => decide (topD d ≠ 0)
theorem term_shape {d : PyData} (h : dTerm d = true) : ∃ (x : Str) (t b : Int), d = .tuple [.str x, .tuple [.int t, .int b]] ∧ dWord lowZ (.str x) = true ∧ dFrac (.tuple [.int t, .int b]) = true := by
  unfold dTerm at h
  split at h
  · next n f =>
    rw [Bool.and_eq_true] at h
    obtain ⟨t, b, rfl⟩ := frac_shape h.2
    cases n with
    | str x => exact ⟨x, t, b, rfl, h.1, h.2⟩
    | _ => exact absurd h.1 Bool.false_ne_true
  · cases h
/-- in order of their names -/
def RiseT (es : List PyData) : Prop := (es.map nmD).Pairwise leS
theorem inj_nd : ∀ {ds : List PyData}, (ds.map nmD).Nodup → ∀ x ∈ ds, ∀ y ∈ ds, nmD x = nmD y → x = y
  | [], _, x, hx, _, _, _ => nomatch hx
  | d :: r, nd, x, hx, y, hy, e => by
    rw [List.map_cons, List.nodup_cons] at nd
    rcases List.mem_cons.mp hx with h1 | h1
    · rcases List.mem_cons.mp hy with h2 | h2
      · rw [h1, h2]
      · subst h1
        exact absurd (e ▸ List.mem_map.mpr ⟨y, h2, rfl⟩) nd.1
    · rcases List.mem_cons.mp hy with h2 | h2
      · subst h2
        exact absurd (e ▸ List.mem_map.mpr ⟨x, h1, rfl⟩) nd.1
      · exact inj_nd nd.2 x h1 y h2 e
theorem rise_one {ds es fs : List PyData} (nd : (ds.map nmD).Nodup) (h1 : es.Perm ds) (h2 : fs.Perm ds) (r1 : RiseT es) (r2 : RiseT fs) : es = fs := by
  have inj := inj_nd nd
  refine List.Perm.eq_of_pairwise (le := fun x y => leS (nmD x) (nmD y)) (fun a b ha hb h g => ?_) (List.pairwise_map.mp r1) (List.pairwise_map.mp r2) (h1.trans h2.symm)
  have z : (nmD a).cps.toList = (nmD b).cps.toList := List.le_antisymm h g
  exact inj a (h1.mem_iff.mp ha) b (h2.mem_iff.mp hb) (TL.ext_tl z)
def insF (C dx pt : Addr) (cv : V) : HO := .ins C dx [("_terms", .ref pt), ("_constant", cv)]
structure FormAt (K : PySem.W.Frag) (C D : Addr) (H : Hp) (r : Addr) (es : List PyData) (c : PyData) : Prop where
  ob : ∃ dx pt cv, H r = some (insF C dx pt cv) ∧ Dt K D H (.ref pt) (.tuple es) ∧ Dt K D H cv c
theorem FormAt.ex {K : PySem.W.Frag} {C D r : Addr} {H H' : Hp} {es : List PyData} {c : PyData} (h : FormAt K C D H r es c) (e : Evl.Ex H H') : FormAt K C D H' r es c := by
  obtain ⟨dx, pt, cv, a, b, d⟩ := h.ob
  exact ⟨dx, pt, cv, e _ _ a, b.ex e, d.ex e⟩
theorem FormAt.bu {K : PySem.W.Frag} {C D r : Addr} {H H' : Hp} {es : List PyData} {c : PyData} (h : FormAt K C D H r es c) (k : DeckAt H D) (e : Bu D H H') : FormAt K C D H' r es c := by
  obtain ⟨dx, pt, cv, a, b, d⟩ := h.ob
  refine ⟨dx, pt, cv, e _ _ (fun z => ?_) a, b.bu k e, d.bu k e⟩
  obtain ⟨g, m, n, hD, _⟩ := k
  subst z
  rw [hD] at a
  cases a
/-- a value that could be terms, to be looked at -/
structure TOk (td : PyData) : Prop where
  sh : shD td = true
  few : ∀ ds, td = .tuple ds → ds.length ≤ 100
def spFormIni (K : PySem.W.Frag) (C B : Addr) : Sp := fun vs H Q E => ∃ (D r dx : Addr) (tv cv : V) (td cd : PyData), vs = [.ref r, tv, cv] ∧ H r = some (.ins C dx []) ∧ Dt K D H tv td ∧ Dt K D H cv cd ∧ TOk td ∧ shD cd = true ∧
  (∀ ds, td = .tuple ds → dTerms td = true → dFrac cd = true → ∀ es pt H', es.Perm (kept ds) → RiseT es → (∀ a o, a ≠ r → H a = some o → H' a = some o) → H' r = some (insF C dx pt cv) → Dt K D H' (.ref pt) (.tuple es) → Q .non H') ∧
  ((dTerms td && dFrac cd) = false → ∀ H', Evl.Ex H H' → E (.ref B) none H')
def spTerms (K : PySem.W.Frag) : Sp := fun vs H Q _ => ∃ (D : Addr) (v : V) (d : PyData), vs = [v] ∧ Dt K D H v d ∧ TOk d ∧ ∀ H', Evl.Ex H H' → Q (.bl (dTerms d)) H'
theorem zip_kept {p : PyData → Bool} : ∀ {xs : List V} {ds : List PyData}, xs.length = ds.length → ((xs.zip ds).filter fun z => p z.2).map (·.2) = ds.filter p
  | [], [], _ => rfl
  | x :: xs, d :: ds, h => by
    have ih := zip_kept (p := p) (xs := xs) (ds := ds) (by simpa using h)
    rw [List.zip_cons_cons]
    cases hp : p d with
    | true => rw [List.filter_cons_of_pos (by exact hp), List.filter_cons_of_pos hp, List.map_cons, ih]
    | false => rw [List.filter_cons_of_neg (by rw [hp]; exact Bool.false_ne_true), List.filter_cons_of_neg (by rw [hp]; exact Bool.false_ne_true), ih]
theorem dtA_zip {K : PySem.W.Frag} {D : Addr} {H : Hp} {xs : List V} {ds : List PyData} (h : DtA K D H xs ds) : ∀ z ∈ xs.zip ds, Dt K D H z.1 z.2 := by
  intro z hz
  obtain ⟨i, hi⟩ := List.mem_iff_getElem?.mp hz
  rw [List.getElem?_zip_eq_some] at hi
  obtain ⟨d, hd, dv⟩ := h.at hi.1
  rw [hi.2] at hd
  cases hd
  exact dv
theorem dtA_of {K : PySem.W.Frag} {D : Addr} {H : Hp} : ∀ {ws : List (V × PyData)}, (∀ z ∈ ws, Dt K D H z.1 z.2) → DtA K D H (ws.map (·.1)) (ws.map (·.2))
  | [], _ => .nil
  | z :: r, h => .cons (h z (List.mem_cons_self ..)) (dtA_of fun y hy => h y (List.mem_cons_of_mem _ hy))
theorem zip_at {xs : List V} {ds : List PyData} {i : Nat} {v : V} {d : PyData} (h : xs[i]? = some v) (g : ds[i]? = some d) : (xs.zip ds)[i]? = some (v, d) := List.getElem?_zip_eq_some.mpr ⟨h, g⟩
theorem terms_of {td : PyData} (h : dTerms td = true) : ∃ ds, td = .tuple ds ∧ (∀ d ∈ ds, dTerm d = true) ∧ (ds.map nmD).Nodup := by
  unfold dTerms at h
  split at h
  · next ds =>
    rw [Bool.and_eq_true] at h
    exact ⟨ds, rfl, List.all_eq_true.mp h.1, of_decide_eq_true h.2⟩
  · cases h
theorem nodup_kept {ds : List PyData} {p : PyData → Bool} (h : (ds.map nmD).Nodup) : ((ds.filter p).map nmD).Nodup := List.Nodup.sublist (List.Sublist.map nmD List.filter_sublist) h
end Qj
namespace Qj
open PySem PySem.Spec PyProof.Rows L2
theorem op_neDK {X : Cx} (K : PySem.W.Frag) (hK : X.K = K) (hu : X.A.units + 64 < cLine) : OpR X (compareOp .NotEq) (rNeD K) := hK ▸ op_neD hu
/-! ### drawn terms -/
def spDraw : Sp := fun vs H Q _ => ∃ D : Addr, vs = [.ref D] ∧ DeckAt H D ∧ ∀ (r : Addr) (x : Int × Int) (H' : Hp), H' r = some (frV x) → Sm 62 x → Nat.gcd x.1.natAbs x.2.natAbs = 1 → Bu D H H' → DeckAt H' D → Q (.ref r) H'
theorem draw_b {u L : Int} (h0 : 0 ≤ u) (h1 : u < L) (hL : L ≤ 10 ^ 18) : 1 + u ≠ 0 ∧ (1 + u).natAbs < 2 ^ 62 := ⟨by omega, by omega⟩
/-- five names, unlike -/
def spNamesU : Sp := fun vs H Q _ => ∃ (D : Addr), vs = [.ref D] ∧ DeckAt H D ∧ ∀ (F : Addr) (ns : List Str) (H' : Hp), H F = none → H' F = some (.lst (ns.map V.str)) → F ≠ D → ns.length = 5 → (∀ x ∈ ns, Nm x) → ns.Nodup → Bu D H H' → DeckAt H' D → Q (.ref F) H'
/-- the first letters go by seven -/
def Firsts (st : Int) (ns : List Str) : Prop := ∀ (i : Nat) (x : Str), ns[i]? = some x → x.cps[0]? = some (97 + ((st + 7 * (i : Int)) % 26).toNat)
theorem firsts_nd {st : Int} {ns : List Str} (h : Firsts st ns) (l : ns.length ≤ 5) : ns.Nodup := by
  rw [List.nodup_iff_pairwise_ne, List.pairwise_iff_getElem]
  intro i j hi hj lt e
  have a := h i _ (List.getElem?_eq_getElem hi)
  have b := h j _ (List.getElem?_eq_getElem hj)
  rw [e, b] at a
  have a2 := Option.some.inj a
  omega
theorem firsts_add {st : Int} {ns : List Str} {x : Str} (h : Firsts st ns) (g : x.cps[0]? = some (97 + ((st + 7 * (ns.length : Int)) % 26).toNat)) : Firsts st (ns ++ [x]) := by
  intro i y hy
  by_cases hi : i < ns.length
  · rw [List.getElem?_append_left hi] at hy
    exact h i y hy
  · rw [List.getElem?_append_right (by omega)] at hy
    have e : i - ns.length = 0 := by
      by_cases z : i - ns.length = 0
      · exact z
      · rw [List.getElem?_eq_none (by simp; omega)] at hy
        cases hy
    rw [e] at hy
    cases hy
    rw [show i = ns.length by omega]
    exact g
theorem low_first {fs : Int} : ∃ c, atI lowZ.cps.toList (fs % 26) = some c ∧ 97 ≤ c ∧ c ≤ 122 ∧ c = 97 + (fs % 26).toNat := by
  have n1 := Int.emod_nonneg fs (b := 26) (by decide)
  have n2 := Int.emod_lt_of_pos fs (b := 26) (by decide)
  obtain ⟨k, hk⟩ := Int.eq_ofNat_of_zero_le n1
  rw [hk]
  have key : ∀ k, k < 26 → lowZ.cps.toList[k]? = some (97 + k) := by decide +kernel
  exact ⟨_, atI_nat (key k (by omega)), by omega, by omega, rfl⟩
/-- a drawn term -/
structure Trm (ns : List Str) (d : PyData) : Prop where
  ex : ∃ (x : Str) (f : Int × Int), d = .tuple [.str x, frD f] ∧ x ∈ ns ∧ Sm 62 f ∧ Nat.gcd f.1.natAbs f.2.natAbs = 1
theorem frac_fr {f : Int × Int} (h : Sm 62 f) (g : Nat.gcd f.1.natAbs f.2.natAbs = 1) : dFrac (frD f) = true := by
  show (decide (1 ≤ f.2) && decide (((Nat.gcd f.1.natAbs f.2.natAbs : Nat) : Int) = 1)) = true
  have := h.p
  rw [decide_eq_true (by omega), decide_eq_true (by rw [g]; rfl)]
  rfl
theorem trm_term {ns : List Str} (hn : ∀ x ∈ ns, Nm x) {d : PyData} (h : Trm ns d) : dTerm d = true := by
  obtain ⟨x, f, rfl, hx, hf, hg⟩ := h.ex
  show (dWord lowZ (.str x) && dFrac (frD f)) = true
  rw [low_name (hn x hx), frac_fr hf hg]
  rfl
/-- the drawn terms and their constant -/
structure Drw (ns : List Str) (ds : List PyData) (c : Int × Int) : Prop where
  t : ∀ d ∈ ds, Trm ns d
  nd : (ds.map nmD).Nodup
  l : ds.length ≤ ns.length
  cs : Sm 62 c
  cg : Nat.gcd c.1.natAbs c.2.natAbs = 1
def spFormL (K : PySem.W.Frag) : Sp := fun vs H Q _ => ∃ (D F : Addr) (ns : List Str), vs = [.ref D, .ref F] ∧ DeckAt H D ∧ H F = some (.lst (ns.map V.str)) ∧ F ≠ D ∧ ns.length ≤ 5 ∧ ns.Nodup ∧ (∀ x ∈ ns, Nm x) ∧
  ∀ (p pt pc : Addr) (ds : List PyData) (c : Int × Int) (H' : Hp), H' p = some (.tup [.ref pt, .ref pc]) → Dt K D H' (.ref pt) (.tuple ds) → H' pc = some (frV c) → Drw ns ds c → Bu D H H' → DeckAt H' D → Q (.ref p) H'
def spFNames (K : PySem.W.Frag) (C : Addr) : Sp := fun vs H Q _ => ∃ (D a : Addr) (es : List PyData) (c : PyData), vs = [.ref a] ∧ FormAt K C D H a es c ∧ es.length ≤ 100 ∧ (∀ d ∈ es, ∃ x f, d = .tuple [.str x, f]) ∧ ∀ (p : Addr) (H' : Hp), Evl.Ex H H' → Dt K D H' (.ref p) (.tuple (es.map fun d => .str (nmD d))) → Q (.ref p) H'
def spToldT (K : PySem.W.Frag) : Sp := fun vs H Q _ => ∃ (D a : Addr) (ns : List Str) (ds : List PyData) (c : Int × Int), vs = [.ref a] ∧ Dt K D H (.ref a) (.tuple ds) ∧ Drw ns ds c ∧ ns.length ≤ 5 ∧ ∀ (es : List PyData) (p : Addr) (H' : Hp), es.Perm (kept ds) → RiseT es → Evl.Ex H H' → Dt K D H' (.ref p) (.tuple es) → Q (.ref p) H'
end Qj
namespace Qj
open PySem PySem.Spec PyProof.Rows L2
/-! ### written data -/
theorem pe_wk {X : Cx} {e : Expr} {t t' : TE} (h : PE X e t) (k : ∀ σ H Q, t' σ H Q → t σ H Q) : PE X e t' := ⟨fun pins s σ H Q I z => h.run pins s σ H Q I (k σ H Q z)⟩
theorem pa_wk {X : Cx} {e : List Expr} {t t' : TA} (h : PA X e t) (k : ∀ σ H Q, t' σ H Q → t σ H Q) : PA X e t' := ⟨fun pos pins s σ H Q I z => h.run pos pins s σ H Q I (k σ H Q z)⟩
def tDat (K : PySem.W.Frag) (d : PyData) : TE := fun _ H Q => ∀ v H', Evl.Ex H H' → (∀ D, H D ≠ none → Dt K D H' v d) → Q v H'
def tDatA (K : PySem.W.Frag) (ds : List PyData) : TA := fun _ H Q => ∀ vs H', Evl.Ex H H' → vs.length = ds.length → (∀ D, H D ≠ none → DtA K D H' vs ds) → Q vs H'
variable {X : Cx} {K : PySem.W.Frag}
theorem pa_d0 : PA X [] (tDatA K []) := pa_wk pa_nil fun σ H Q q => q [] H (fun _ _ h => h) rfl fun D _ => .nil
theorem live_ex {H H' : Hp} (e : Evl.Ex H H') {D : Addr} (h : H D ≠ none) : H' D ≠ none := by
  cases z : H D with
  | none => exact absurd z h
  | some o =>
    rw [e _ _ z]
    exact fun h => by cases h
theorem pa_d1 {e : Expr} {es : List Expr} {d : PyData} {ds : List PyData} (h : PE X e (tDat K d)) (g : PA X es (tDatA K ds)) (hs : starEach (e :: es) X.env = (false, eval e X.env) :: starEach es X.env := by rfl) : PA X (e :: es) (tDatA K (d :: ds)) :=
  pa_wk (pa_cons h g (hs := hs)) fun σ H Q q v H1 e1 dv vs H2 e2 l2 dvs => q (v :: vs) H2 (e1.trans e2) (congrArg Nat.succ l2) fun D hD => .cons ((dv D hD).ex e2) (dvs D (live_ex e1 hD))
theorem pe_dI {i : Int} {j : Nat} {pos : PySem.Pos} : PE X (Expr.Constant (Const.int i) j pos) (tDat K (.int i)) := pe_wk pe_int fun σ H Q q => q _ H (fun _ _ h => h) fun D _ => .int i
theorem pe_dN {i : Int} {j : Nat} {pos pos' : PySem.Pos} : PE X (Expr.UnaryOp .USub (Expr.Constant (Const.int i) j pos) pos') (tDat K (.int (-i))) := pe_wk (pe_un un_neg pe_int) fun σ H Q q => ⟨i, rfl, q _ H (fun _ _ h => h) fun D _ => .int _⟩
theorem pe_dS {x : Str} {j : Nat} {pos : PySem.Pos} : PE X (Expr.Constant (Const.str x) j pos) (tDat K (.str x)) := pe_wk pe_str fun σ H Q q => q _ H (fun _ _ h => h) fun D _ => .str x
theorem pe_d_ {e : Expr} {v : V} {d : PyData} (h : PE X e (tC v)) (g : ∀ D H, Dt K D H v d) : PE X e (tDat K d) := pe_wk h fun σ H Q q => q _ H (fun _ _ h => h) fun D _ => g D H
theorem pe_dB {e : Expr} {b : Bool} (h : PE X e (tC (.bl b))) : PE X e (tDat K (.bool b)) := pe_d_ h fun _ _ => .bl b
theorem pe_d0 {e : Expr} (h : PE X e (tC .non)) : PE X e (tDat K .none) := pe_d_ h fun _ _ => .non
theorem pe_dT {es : List Expr} {n : Nat} {pos : PySem.Pos} {ds : List PyData} (h : PA X es (tDatA K ds)) (l : ds.length ≤ 100) : PE X (Expr.Tuple es n pos) (tDat K (.tuple ds)) :=
  pe_wk (pe_tup h) fun σ H Q q vs H1 e1 l1 dvs => ⟨by rw [sizeLine_eq]; omega, fun p np => q _ _ (e1.trans (ex_new np)) fun D hD => .tup (SqT.of upd_same) ((dvs D hD).ex (ex_new np))⟩
theorem pe_dL {es : List Expr} {pos : PySem.Pos} {ds : List PyData} (h : PA X es (tDatA K ds)) (l : ds.length ≤ 100) : PE X (Expr.List es pos) (tDat K (.list ds)) :=
  pe_wk (pe_lst h) fun σ H Q q vs H1 e1 l1 dvs => ⟨by rw [sizeLine_eq]; omega, fun p np => q _ _ (e1.trans (ex_new np)) fun D hD => .lst (fun z => by subst z; exact live_ex e1 hD np) upd_same ((dvs D hD).ex (ex_new np))⟩
/-! ### what is refused -/
def spRefF (K : PySem.W.Frag) : Sp := fun vs H Q _ => ∃ (D : Addr) (tv cv : V) (td cd : PyData), vs = [tv, cv] ∧ Dt K D H tv td ∧ Dt K D H cv cd ∧ TOk td ∧ shD cd = true ∧ ∀ H', Evl.Ex H H' → Q (.bl (!(dTerms td && dFrac cd))) H'
def f12 : PyData := frD (1, 2)
def wrongs03 : List PyData := [.tuple [.str "a"], .tuple [.str "A", f12], .tuple [.str "abcd", f12], .tuple [.str "", f12], .tuple [.int 1, f12], .tuple [.str "q", frD (2, 4)], .tuple [.str "q", frD (1, 0)],
  .tuple [.str "q", .int 1], .str "ab", .list [.str "q", f12], .tuple [.str "q", f12, .int 3], .tuple [.str "q", frD (1, -2)],
  .tuple [.str "q", .tuple [.bool true, .int 2]], .none, .tuple [.str "a b", f12], .tuple [.str "a\n", f12]]
theorem wrongs_no : ∀ d ∈ wrongs03, dTerm d = false ∧ shD d = true ∧ noL d = noL d := by
  have : (wrongs03.all fun d => !dTerm d && shD d) = true := by decide +kernel
  intro d hd
  have z := List.all_eq_true.mp this d hd
  rw [Bool.and_eq_true] at z
  refine ⟨?_, z.2, rfl⟩
  cases h : dTerm d with
  | true => rw [h] at z; exact absurd z.1 (by decide)
  | false => rfl
def spSpoF (K : PySem.W.Frag) : Sp := fun vs H Q _ => ∃ (D a : Addr) (ns : List Str) (ds : List PyData) (c : Int × Int), vs = [.ref D, .ref a] ∧ DeckAt H D ∧ Dt K D H (.ref a) (.tuple ds) ∧ Drw ns ds c ∧ ns.length ≤ 5 ∧ (∀ x ∈ ns, Nm x) ∧
  ∀ (v : V) (td : PyData) (H' : Hp), Bu D H H' → DeckAt H' D → Dt K D H' v td → TOk td → dTerms td = false → Q v H'
end Qj
namespace Qj
open PySem PySem.Spec PyProof.Rows L2
/-! ### [..] == [..] of the same texts -/
def rEqS : R2 := fun x y H Q => ∃ (a b : Addr) (ts : List Str), x = .ref a ∧ y = .ref b ∧ H a = some (.lst (ts.map V.str)) ∧ H b = some (.lst (ts.map V.str)) ∧ Q (.bl true) H
theorem op_eqS {X : Cx} (hu : X.A.units < cLine) : OpR X (compareOp .Eq) rEqS := by
  intro pins s σ H x y v u Q I rx ry h
  obtain ⟨a, b, ts, rfl, rfl, ha, hb, q⟩ := h
  cases rx
  cases ry
  obtain ⟨us, r1, p1, _⟩ := I.list (.of ha)
  obtain ⟨ws, r2, p2, _⟩ := I.list (.of hb)
  obtain ⟨l1, f1⟩ := strs_rel r1
  obtain ⟨l2, f2⟩ := strs_rel r2
  have z := SeqAt.RcAt.lists (A := X.A) (s := s) (e := fun _ => true) p1.isList p2.isList (by rw [List.size_toArray, List.size_toArray, l1, l2]) hu (fun j h1 h2 => ?_) X.prog X.w X.xe (EP X pins σ Q) ?_
  · exact z
  · have h1' : j < us.length := by simpa using h1
    have h2' : j < ws.length := by simpa using h2
    obtain ⟨t, e1⟩ := f1 j h1'
    obtain ⟨t2, e2⟩ := f2 j h2'
    have hj : j < ts.length := by omega
    rw [List.getElem?_eq_getElem hj] at e1 e2
    have e1' := Option.some.inj e1
    have e2' := Option.some.inj e2
    have g1 : us.toArray[j] = us[j] := by simp
    have g2 : ws.toArray[j] = ws[j] := by simp
    rw [g1, g2, ← e1', ← e2']
    have k := SeqAt.EqAt.str_str (A := X.A.in1) (s := s) ts[j] t ts[j] t2
    rw [beq_self_eq_true] at k
    exact k
  · rw [show ((List.range us.toArray.size).all fun _ => true) = true from List.all_eq_true.mpr fun _ _ => rfl]
    exact ⟨.bl true, H, I, rfl, q⟩
/-! ### what a form tells -/
def toldD (es : List PyData) (f : Int × Int) : PyData := .tuple [.tuple es, frD f, .tuple (es.map fun d => .str (nmD d))]
structure GoodF (es : List PyData) (f : Int × Int) : Prop where
  l : es.length ≤ 5
  t : ∀ d ∈ es, ∃ (x : Str) (g : Int × Int), d = .tuple [.str x, frD g] ∧ Nm x ∧ Sm 62 g
  s : Sm 62 f
theorem szd_fr62 {f : Int × Int} (h : Sm 62 f) : Szd (frD f) 2000 20 := (szd_okd (okd_frS (h.mono (by decide)))).mono (by decide) (by decide)
theorem szd_es {es : List PyData} {f : Int × Int} (h : GoodF es f) : Szd (.tuple es) 12000 30 := (szd_tupA (n := 2100) (m := 25) (fun d hd => by
  obtain ⟨x, g, rfl, hx, sg⟩ := h.t d hd
  exact (szd_tup2 (szd_nm hx) (szd_fr62 sg)).mono (by decide) (by decide))).mono (by have := h.l; omega) (by decide)
theorem names_es {es : List PyData} {f : Int × Int} (h : GoodF es f) : ∀ x ∈ es.map nmD, Nm x := fun x hx => by
  obtain ⟨d, hd, rfl⟩ := List.mem_map.mp hx
  obtain ⟨x, g, rfl, hx, _⟩ := h.t d hd
  exact hx
theorem nodict_fr (f : Int × Int) : (frD f).hasDict = false := rfl
theorem nodict_es : ∀ {es : List PyData}, (∀ d ∈ es, ∃ (x : Str) (g : Int × Int), d = .tuple [.str x, frD g] ∧ Nm x ∧ Sm 62 g) → PyData.hasDictAll es = false
  | [], _ => rfl
  | d :: r, h => by
    obtain ⟨x, g, rfl, _⟩ := h d (List.mem_cons_self ..)
    simp only [PyData.hasDictAll, nodict_es fun y hy => h y (List.mem_cons_of_mem _ hy), Bool.or_false]
    rfl
theorem szd_told {es : List PyData} {f : Int × Int} (h : GoodF es f) : Szd (toldD es f) 16000 60 ∧ ((toldD es f).hasDict = true → noLs (toldD es f) = true) := by
  have n : (toldD es f).hasDict = false := by
    show PyData.hasDictAll [.tuple es, frD f, .tuple (es.map fun d => .str (nmD d))] = false
    simp only [PyData.hasDictAll, PyData.hasDict, nodict_es h.t, nodict_fr, Bool.false_or, Bool.or_false]
    rw [show (es.map fun d => PyData.str (nmD d)) = (es.map nmD).map PyData.str by rw [List.map_map]; rfl]
    exact nd_strs _
  refine ⟨?_, fun z => by rw [n] at z; cases z⟩
  have a := szd_es h
  have b := szd_fr62 h.s
  have c := szd_names (ns := es.map nmD) (names_es h) (by rw [List.length_map]; have := h.l; omega)
  rw [List.map_map] at c
  have c2 : Szd (.tuple (es.map fun d => .str (nmD d))) 160 1 := c
  have := a.wt; have := b.wt; have := c2.wt
  have := a.dp; have := b.dp; have := c2.dp
  refine ⟨?_, ?_, ?_, ?_⟩
  · simp only [toldD, PyData.showable, PyData.showableAll, a.sh, b.sh, c2.sh, Bool.and_self]
    have := a.sh; simp only [PyData.showable] at this
    have := c2.sh; simp only [PyData.showable] at this
    simp_all
  · simp only [toldD, PyData.leavesShort, PyData.leavesShortAll, b.lv]
    have := a.lv; simp only [PyData.leavesShort] at this
    have := c2.lv; simp only [PyData.leavesShort] at this
    simp_all
  · simp only [toldD, PyData.weight, PyData.weightAll] at *
    omega
  · simp only [toldD, PyData.depth, PyData.depthAll] at *
    omega
theorem szd_two {es : List PyData} {f : Int × Int} (h : GoodF es f) : Szd (.tuple [.tuple es, frD f]) 16000 60 ∧ ((PyData.tuple [.tuple es, frD f]).hasDict = true → noLs (.tuple [.tuple es, frD f]) = true) := by
  have n : (PyData.tuple [.tuple es, frD f]).hasDict = false := by
    simp only [PyData.hasDictAll, PyData.hasDict, nodict_es h.t, nodict_fr, Bool.false_or, Bool.or_false]
  exact ⟨(szd_tup2 (szd_es h) (szd_fr62 h.s)).mono (by decide) (by decide), fun z => by rw [n] at z; cases z⟩
/-- a form that is kept, with what it should tell -/
structure HF (K : PySem.W.Frag) (C D : Addr) (H : Hp) (v : V) (t : Str) : Prop where
  ex : ∃ (p r : Addr) (es : List PyData) (f : Int × Int), v = .ref p ∧ H p = some (.tup [.ref r, .str t]) ∧ FormAt K C D H r es (frD f) ∧ GoodF es f ∧ t = (toldD es f).shown
theorem GoodF.noL {es : List PyData} {f : Int × Int} (h : GoodF es f) : noLA es = true := noLA_of fun d hd => by
  obtain ⟨x, g, rfl, _⟩ := h.t d hd
  rfl
theorem FormAt.lst {K : PySem.W.Frag} {C D r F : Addr} {H : Hp} {es : List PyData} {f : Int × Int} {ys zs : List V} (h : FormAt K C D H r es (frD f)) (g : GoodF es f) (hF : H F = some (.lst ys)) : FormAt K C D (upd H F (.lst zs)) r es (frD f) := by
  obtain ⟨dx, pt, cv, a, b, c⟩ := h.ob
  have k : ∀ a xs, SqT K H a xs → SqT K (upd H F (.lst zs)) a xs := fun a xs h => sqT_lst hF h
  refine ⟨dx, pt, cv, ?_, Dt.only k _ (by show noLA es = true; exact g.noL) b, Dt.only k _ rfl c⟩
  rw [upd_ne (fun z => by subst z; rw [hF] at a; cases a)]
  exact a
theorem HF.lst {K : PySem.W.Frag} {C D F : Addr} {H : Hp} {v : V} {t : Str} {ys zs : List V} (h : HF K C D H v t) (hF : H F = some (.lst ys)) : HF K C D (upd H F (.lst zs)) v t := by
  obtain ⟨p, r, es, f, rfl, a, b, c, d⟩ := h.ex
  refine ⟨p, r, es, f, rfl, ?_, b.lst c hF, c, d⟩
  rw [upd_ne (fun z => by subst z; rw [hF] at a; cases a)]
  exact a
theorem HF.bu {K : PySem.W.Frag} {C D : Addr} {H H' : Hp} {v : V} {t : Str} (h : HF K C D H v t) (k : DeckAt H D) (b : Bu D H H') : HF K C D H' v t := by
  obtain ⟨p, r, es, f, rfl, a, b2, c, d⟩ := h.ex
  refine ⟨p, r, es, f, rfl, b _ _ (fun z => ?_) a, b2.bu k b, c, d⟩
  obtain ⟨g, m, n, hD, _⟩ := k
  subst z
  rw [hD] at a
  cases a
/-- all that are kept -/
structure Kept (K : PySem.W.Frag) (C D L : Addr) (H : Hp) (ts : List Str) : Prop where
  ex : ∃ vs : List V, H L = some (.lst vs) ∧ vs.length = ts.length ∧ ts.length ≤ 4 ∧ ∀ (i : Nat) (v : V) (t : Str), vs[i]? = some v → ts[i]? = some t → HF K C D H v t
theorem Kept.bu {K : PySem.W.Frag} {C D L : Addr} {H H' : Hp} {ts : List Str} (h : Kept K C D L H ts) (n : L ≠ D) (k : DeckAt H D) (b : Bu D H H') : Kept K C D L H' ts := by
  obtain ⟨vs, a, l, l2, f⟩ := h.ex
  exact ⟨vs, b _ _ n a, l, l2, fun i v t x y => (f i v t x y).bu k b⟩
theorem good_kept {ns : List Str} {ds es : List PyData} {f : Int × Int} (h : Drw ns ds f) (l : ns.length ≤ 5) (n : ∀ x ∈ ns, Nm x) (p : es.Perm (kept ds)) : GoodF es f := by
  refine ⟨?_, fun d hd => ?_, h.cs⟩
  · have := p.length_eq
    have a : (kept ds).length ≤ ds.length := List.length_filter_le ..
    have := h.l
    omega
  · obtain ⟨x, g, e, hx, sg, _⟩ := (h.t d (List.mem_filter.mp (p.mem_iff.mp hd)).1).ex
    exact ⟨x, g, e, n x hx, sg⟩
/-- what is no fraction and no row of terms -/
def odds03 : List PyData := [.none, .int 1, frD (2, 4), frD (1, 0), .str "0", .tuple [.int 1, .int 2, .int 3], .list [.int 1, .int 2], .bool true]
theorem odds_no : ∀ d ∈ odds03, dFrac d = false ∧ dTerms d = false ∧ shD d = true ∧ TOk d := by
  have : (odds03.all fun d => !dFrac d && !dTerms d && shD d) = true := by decide +kernel
  intro d hd
  have z := List.all_eq_true.mp this d hd
  simp only [Bool.and_eq_true, Bool.not_eq_true'] at z
  refine ⟨z.1.1, z.1.2, z.2, z.2, fun ds e => ?_⟩
  subst e
  simp only [odds03, List.mem_cons, List.not_mem_nil, or_false, frD, PyData.tuple.injEq, reduceCtorEq, false_or, or_false] at hd
  rcases hd with rfl | rfl | rfl <;> decide
theorem drw_terms {ns : List Str} {ds : List PyData} {f : Int × Int} (h : Drw ns ds f) (l : ns.length ≤ 5) (n : ∀ x ∈ ns, Nm x) : dTerms (.tuple ds) = true ∧ dFrac (frD f) = true ∧ TOk (.tuple ds) := by
  refine ⟨?_, frac_fr h.cs h.cg, ?_, fun es e => ?_⟩
  · show (ds.all dTerm && decide _) = true
    rw [Bool.and_eq_true]
    exact ⟨List.all_eq_true.mpr fun d hd => trm_term n (h.t d hd), decide_eq_true h.nd⟩
  · show shA ds = true
    refine shA_all.mpr fun d hd => ?_
    obtain ⟨x, g, rfl, hx, _⟩ := (h.t d hd).ex
    show shA _ = true
    refine shA_all.mpr fun e he => ?_
    rcases List.mem_cons.mp he with rfl | he
    · exact sh_name (n x hx)
    · rw [List.mem_singleton.mp he]
      rfl
  · cases e
    have := h.l
    omega
end Qj
namespace Qj
open PySem PySem.Spec PySem.Calls PyProof.Rows L2
/-! ### o(..), o an instance whose class has its own __call__ -/
theorem FunD.isF {K : PySem.W.Frag} {x qual : Str} {ps : Arguments} {b : List Stmt} {sc : Scope} {dvs : List V} {kws : List (Str × V)} {f : Addr} {fd : FuncData} (F : FunD K x qual ps b sc dvs kws f fd) : PySem.W.fnIn K f = true := by
  obtain ⟨oc, od, dV, kV, doc, pm, an, cdv, ct, osl, _, l, _⟩ := F.ex
  have l2 : K.lookup f = _ := l
  unfold PySem.W.fnIn
  rw [l2]
section
variable {M : Model} {A : Around} {E : Value → Shared → Prop} {s : Shared} {env : Env} {pos : PySem.Pos} {x : Addr} {first : List Value} {Q : Value → Shared → Prop}
def Plain1 (h : Heap) (x : Addr) : Prop := ∃ C ox od, PySem.W.InstAt h x ox C od ∧ ox.data = .plain
theorem own_withA {args : List (Bool × Sem Value)} {keywords : List (Option Str × Sem Value)} (hplain : (args.any (·.1) || keywords.any (·.1.isNone)) = false)
    (h : wpAny M A (evalArgs (.ref x) true args keywords) (fun a s₁ => Plain1 s₁.heap x ∧ wpAny M A (call (.ref x) (first ++ a.pos) a.kw) Q E s₁) E s) : wpAny M A (callWith pos (.ref x) first args keywords) Q E s := by
  unfold callWith
  refine wpAny_bind (wpAny_holding (wpAny_mono h (fun a s₁ h₁ => wpAny_bind (wpAny_standAt ?_)) fun _ _ y => y))
  obtain ⟨⟨C, ox, od, I, hd⟩, h2⟩ := h₁
  have L := PySem.W.kco_keeper (M := M) I hd
  simp only [hplain]
  refine wpAny_bind (L.here ?_)
  have tail : ∀ {t : Sem Value}, wpAny M A t Q E s₁ → wpAny M A (t >>= fun r => holding [r] point >>= fun _ => pure r) Q E s₁ :=
    fun ht => wpAny_bind (wpAny_mono ht (fun r s₂ hr => wpAny_bind (wpAny_holding (wpAny_point (wpAny_pure hr)))) fun _ _ y => y)
  exact tail (wpAny_operateT h2)
theorem own_with {e : Expr} {rest : List Expr}
    (h : wpAny M A (spliced (backTo pos (starEach (e :: rest) env))) (fun vs s₁ => Plain1 s₁.heap x ∧ wpAny M A (call (.ref x) (first ++ vs)) Q E s₁) E s)
    (he : starEach (e :: rest) env = (false, eval e env) :: starEach rest env := by rfl) (hp : (backTo pos (starEach rest env)).any (·.1) = false := by rfl) :
    wpAny M A (callWith pos (.ref x) first (backTo pos (starEach (e :: rest) env)) []) Q E s := by
  rw [he] at h ⊢
  exact own_withA (by show ((false || (backTo pos (starEach rest env)).any (·.1)) || false) = false; rw [hp]; rfl) (evalArgs_plain h)
end
section
variable {X : Cx} {CX : CXT} {k i : Nat} {C f : Addr} {fd : FuncData} {ps : List Str} {sp : Sp} {E : XK} {x : Str} {q pos : PySem.Pos} {e : Expr} {es : List Expr} {t : TA}
theorem run_own {pins : List (Addr × Obj)} {σ : L2.St} {H : Hp} {s : Shared} {Q : VK} {us : List Value} {vs : List V} {a dx : Addr} {fs : List (Str × V)} (hm : Meth X.K C "__call__" f) (hf : PySem.W.fnIn X.K f = true) (F : FnOk X.prog X.w X.K X.mg X.base CX k f fd ps sp) (hr : Room k X.A) (hb : Binds X.K fd ps []) (hx : PassesAt CX X σ E) (I : Inv X pins σ H s) (r : Vals vs us) (ha : H a = some (.ins C dx fs))
    (h : sp (.ref a :: vs) H Q E) : Plain1 s.heap a ∧ wpAny (model X.prog X.w) X.A (call (.ref a) us) (EP X pins σ Q) X.xe s := by
  obtain ⟨mA, O, _⟩ := ins_get I.hok ha
  obtain ⟨od, J, pl⟩ := O.look
  refine ⟨⟨C, _, _, J, rfl⟩, ?_⟩
  have r2 : Vals (.ref a :: vs) (.ref a :: us) := .cons rfl r
  have hl : (Value.ref a :: us).length = ps.length := r2.length.symm.trans (F.len _ _ _ _ h)
  have bt := hb s (.ref a :: us) I.kIn (by rw [List.append_nil]; exact hl)
  rw [List.append_nil] at bt
  refine wpAny_call (PySem.W.kco_code (a := ⟨us, []⟩) I.kIn J rfl hm.at_ hm.fn hf (codeAny_mono (F.run X.A X.stack s H ⟨.ref a :: us, []⟩ (.ref a :: us) (.ref a :: vs) Q E hr I.env0 bt r2 h) fun r s' hq => ?_))
  cases r with
  | error e => exact hx pins H s e s' I hq
  | ok fl =>
    cases fl with
    | ret u => exact I.after hq
    | next => exact False.elim hq
    | brk => exact False.elim hq
    | cont => exact False.elim hq
/-- n(..), the local n an instance; it may raise -/
def tOwn (C : Addr) (sp : Sp) (E : L2.St → XK) (i : Nat) (t : TA) : TE := fun σ H Q => ∃ a, σ[i]? = some (some (.ref a)) ∧ t σ H fun vs H1 => ∃ dx fs, H1 a = some (.ins C dx fs) ∧ sp (.ref a :: vs) H1 Q (E σ)
theorem pe_own {E : L2.St → XK} (hm : Meth X.K C "__call__" f) (hf : PySem.W.fnIn X.K f = true) (F : FnOk X.prog X.w X.K X.mg X.base CX k f fd ps sp) (hr : Room k X.A) (hN : X.N[i]? = some x) (hv : Vis X.env.scope x) (hb : Binds X.K fd ps []) (hx : ∀ σ, PassesAt CX X σ (E σ)) (ha : PA X (e :: es) t)
    (h1 : (x == ("__debug__" : Str)) = false := by decide) (h4 : (x == ("__classdict__" : Str)) = false := by decide) (h2 : starEach (e :: es) X.env = (false, eval e X.env) :: starEach es X.env := by rfl) (h3 : (backTo pos (starEach es X.env)).any (·.1) = false := by rfl) :
    PE X (.Call (.Name x q) (e :: es) [] pos) (tOwn C sp E i t) := by
  refine ⟨fun pins s σ H Q I h => ?_⟩
  obtain ⟨a, h0, h⟩ := h
  refine wpAny_Call_Name_kw (thn ((pe_var (pos := q) hN hv h1 h4).run pins s σ H (fun v H1 => v = .ref a ∧ H1 = H) I ⟨.ref a, h0, rfl, rfl⟩) fun u s1 ⟨v, H1, I1, r1, q1⟩ => ?_)
  obtain ⟨rfl, rfl⟩ := q1
  cases r1
  exact own_with (thn (ha.run pos pins s1 σ _ _ I1 h) fun us s2 ⟨vs, H2, I2, r, dx, fs, hi, z⟩ => run_own hm hf F hr hb (hx σ) I2 r hi z) h2 h3
end
end Qj
namespace Qj
open PySem PySem.Spec PyProof.Rows L2
/-! ### the value of a form -/
/-- a dict of names and fractions -/
def OpsAt (K : PySem.W.Frag) (H : Hp) (od : Addr) (o : Str → Option (Int × Int)) : Prop := ∃ kvs, H od = some (.dK kvs) ∧ ∀ x, (o x = none → valV kvs (.inr x) = none) ∧ (∀ g, o x = some g → ∃ p, valV kvs (.inr x) = some (.ref p) ∧ FrA K H p g)
def tmD (t : Str × (Int × Int)) : PyData := .tuple [.str t.1, frD t.2]
def valF (o : Str → Option (Int × Int)) : List (Str × (Int × Int)) → Int × Int → Except Str (Int × Int)
  | [], v => .ok v
  | (x, g) :: r, v => match o x with
    | none => .error x
    | some y => valF o r (pl v (ti g y))
def spValAt (K : PySem.W.Frag) (C Miss : Addr) : Sp := fun vs H Q E => ∃ (D r od : Addr) (ts : List (Str × (Int × Int))) (f : Int × Int) (o : Str → Option (Int × Int)), vs = [.ref r, .ref od] ∧ FormAt K C D H r (ts.map tmD) (frD f) ∧ OpsAt K H od o ∧ ts.length ≤ 5 ∧ (∀ t ∈ ts, Sm 62 t.2) ∧ Sm 62 f ∧ (∀ x g, o x = some g → Sm 62 g) ∧
  (∀ v p H', valF o ts f = .ok v → Evl.Ex H H' → FrA K H' p v → Q (.ref p) H') ∧ (∀ x d H', valF o ts f = .error x → Evl.Ex H H' → H' d = some (.xd [("name", .str x)]) → E (.ref Miss) (some d) H')
theorem OpsAt.ex {K : PySem.W.Frag} {H H' : Hp} {od : Addr} {o : Str → Option (Int × Int)} (h : OpsAt K H od o) (e : Evl.Ex H H') : OpsAt K H' od o := by
  obtain ⟨kvs, a, b⟩ := h
  refine ⟨kvs, e _ _ a, fun x => ⟨(b x).1, fun g hg => ?_⟩⟩
  obtain ⟨p, c, d⟩ := (b x).2 g hg
  exact ⟨p, c, sqT_ex e d⟩
theorem valF_drop {o : Str → Option (Int × Int)} {ts : List (Str × (Int × Int))} {i : Nat} {x : Str} {g v : Int × Int} (h : ts[i]? = some (x, g)) : valF o (ts.drop i) v = match o x with
    | none => .error x
    | some y => valF o (ts.drop (i + 1)) (pl v (ti g y)) := by
  have l := (List.getElem?_eq_some_iff.mp h).1
  rw [List.drop_eq_getElem_cons l, (List.getElem?_eq_some_iff.mp h).2]
  rfl
def spLawVal (K : PySem.W.Frag) : Sp := fun vs H Q _ => ∃ (D pt pc od : Addr) (ts : List (Str × (Int × Int))) (f : Int × Int) (o : Str → Option (Int × Int)), vs = [.ref pt, .ref pc, .ref od] ∧ Dt K D H (.ref pt) (.tuple (ts.map tmD)) ∧ FrA K H pc f ∧ OpsAt K H od o ∧ ts.length ≤ 5 ∧ (∀ t ∈ ts, Sm 62 t.2) ∧ Sm 62 f ∧ (∀ x g, o x = some g → Sm 62 g) ∧ (∀ t ∈ ts, (o t.1).isSome) ∧
  ∀ v p H', valF o ts f = .ok v → Evl.Ex H H' → FrA K H' p v → Q (.ref p) H'
/-! ### in any order -/
theorem dvd_low {p q r s : Int} (g : Nat.gcd p.natAbs q.natAbs = 1) (e : p * s = r * q) : q ∣ s := by
  have e2 : p.natAbs * s.natAbs = r.natAbs * q.natAbs := by rw [← Int.natAbs_mul, ← Int.natAbs_mul, e]
  have c : Nat.Coprime q.natAbs p.natAbs := by
    show Nat.gcd _ _ = 1
    rw [Nat.gcd_comm]
    exact g
  exact Int.natAbs_dvd_natAbs.mp (c.dvd_of_dvd_mul_left ⟨r.natAbs, by rw [e2, Nat.mul_comm]⟩)
theorem low_uniq {x y : Int × Int} (a : 0 < x.2) (b : 0 < y.2) (g : Nat.gcd x.1.natAbs x.2.natAbs = 1) (h : Nat.gcd y.1.natAbs y.2.natAbs = 1) (e : x.1 * y.2 = y.1 * x.2) : x = y := by
  have c1 : x.2 ∣ y.2 := dvd_low g e
  have c2 : y.2 ∣ x.2 := dvd_low h e.symm
  have e2 : x.2 = y.2 := Int.le_antisymm (Int.le_of_dvd b c1) (Int.le_of_dvd a c2)
  have e1 : x.1 = y.1 := by
    rw [e2] at e
    exact Int.eq_of_mul_eq_mul_right (Int.ne_of_gt b) e
  exact Prod.ext e1 e2
theorem pl_val {x y : Int × Int} (a : 0 < x.2) (b : 0 < y.2) : (pl x y).1 * (x.2 * y.2) = (x.1 * y.2 + y.1 * x.2) * (pl x y).2 ∧ 0 < (pl x y).2 ∧ Nat.gcd (pl x y).1.natAbs (pl x y).2.natAbs = 1 := by
  obtain ⟨h1, h2, _, h3⟩ := fr_eq (t := x.1 * y.2 + y.1 * x.2) (Int.mul_pos a b)
  exact ⟨h1, h2, h3⟩
theorem pl_swap {v x y : Int × Int} (h : 0 < v.2) (a : 0 < x.2) (b : 0 < y.2) : pl (pl v x) y = pl (pl v y) x := by
  obtain ⟨e1, p1, g1⟩ := pl_val h a
  obtain ⟨e2, p2, g2⟩ := pl_val h b
  obtain ⟨e3, p3, g3⟩ := pl_val p1 b
  obtain ⟨e4, p4, g4⟩ := pl_val p2 a
  refine low_uniq p3 p4 g3 g4 ?_
  generalize pl (pl v x) y = A at *
  generalize pl (pl v y) x = B at *
  generalize pl v x = C at *
  generalize pl v y = E at *
  obtain ⟨A1, A2⟩ := A
  obtain ⟨B1, B2⟩ := B
  obtain ⟨C1, C2⟩ := C
  obtain ⟨E1, E2⟩ := E
  obtain ⟨v1, v2⟩ := v
  obtain ⟨x1, x2⟩ := x
  obtain ⟨y1, y2⟩ := y
  dsimp only at *
  -- A1 * (C2 * y2) = (C1 * y2 + y1 * C2) * A2, C1 * (v2 * x2) = (v1 * x2 + x1 * v2) * C2
  have nz : C2 * y2 * (v2 * x2) * (E2 * x2 * (v2 * y2)) ≠ 0 := Int.ne_of_gt (Int.mul_pos (Int.mul_pos (Int.mul_pos p1 b) (Int.mul_pos h a)) (Int.mul_pos (Int.mul_pos p2 a) (Int.mul_pos h b)))
  have hA : A1 * (v2 * x2 * y2) = (v1 * x2 * y2 + x1 * v2 * y2 + y1 * v2 * x2) * A2 := by
    refine Int.eq_of_mul_eq_mul_right (Int.ne_of_gt p1) ?_
    grind
  have hB : B1 * (v2 * x2 * y2) = (v1 * x2 * y2 + x1 * v2 * y2 + y1 * v2 * x2) * B2 := by
    refine Int.eq_of_mul_eq_mul_right (Int.ne_of_gt p2) ?_
    grind
  refine Int.eq_of_mul_eq_mul_right (Int.ne_of_gt (Int.mul_pos (Int.mul_pos h a) b)) ?_
  grind
end Qj
namespace Qj
open PySem PySem.Spec PyProof.Rows L2
theorem isFn1 {K : PySem.W.Frag} {x qual : Str} {st : Stmt} {f : Addr} {fd : FuncData} (F : L2.Fun K x qual st f fd) : PySem.W.fnIn K f = true := by
  obtain ⟨oc, od, kV, doc, pm, an, cdv, ct, osl, _, l, _⟩ := F.ex
  have l2 : K.lookup f = _ := l
  unfold PySem.W.fnIn
  rw [l2]
abbrev Tm := Str × (Int × Int)
def vstep (o : Str → Option (Int × Int)) (v : Int × Int) (t : Tm) : Int × Int := match o t.1 with
  | some y => pl v (ti t.2 y)
  | none => v
def valL (o : Str → Option (Int × Int)) (ts : List Tm) (f : Int × Int) : Int × Int := ts.foldl (vstep o) f
theorem valF_all {o : Str → Option (Int × Int)} : ∀ {ts : List Tm} {f : Int × Int}, (∀ t ∈ ts, (o t.1).isSome) → valF o ts f = .ok (valL o ts f)
  | [], _, _ => rfl
  | (x, g) :: r, f, h => by
    obtain ⟨y, e⟩ := Option.isSome_iff_exists.mp (h _ (List.mem_cons_self ..))
    have e2 : o x = some y := e
    show (match o x with | none => Except.error x | some y => valF o r (pl f (ti g y))) = .ok (valL o r (vstep o f (x, g)))
    have e3 : vstep o f (x, g) = pl f (ti g y) := by
      unfold vstep
      rw [e]
    rw [e2, e3]
    exact valF_all fun t ht => h t (List.mem_cons_of_mem _ ht)
/-- the first name without a value -/
theorem valF_miss {o : Str → Option (Int × Int)} : ∀ {ts : List Tm} {f : Int × Int} {x : Str}, ((ts.map (·.1)).filter fun x => !(o x).isSome).head? = some x → valF o ts f = .error x
  | [], _, _, h => nomatch h
  | (z, g) :: r, f, x, h => by
    show (match o z with | none => Except.error z | some y => valF o r (pl f (ti g y))) = .error x
    cases e : o z with
    | none =>
      rw [List.map_cons, List.filter_cons_of_pos (by rw [e]; rfl)] at h
      cases h
      rfl
    | some y =>
      rw [List.map_cons, List.filter_cons_of_neg (by rw [e]; exact fun h => nomatch h)] at h
      exact valF_miss h
theorem all_of_none {o : Str → Option (Int × Int)} {ts : List Tm} (h : (ts.map (·.1)).filter (fun x => !(o x).isSome) = []) : ∀ t ∈ ts, (o t.1).isSome := by
  intro t ht
  cases e : o t.1 with
  | some _ => rfl
  | none =>
    have : t.1 ∈ (ts.map (·.1)).filter (fun x => !(o x).isSome) := List.mem_filter.mpr ⟨List.mem_map.mpr ⟨t, ht, rfl⟩, by rw [e]; rfl⟩
    rw [h] at this
    cases this
structure PosO (o : Str → Option (Int × Int)) (ts : List Tm) : Prop where
  o : ∀ x g, o x = some g → 0 < g.2
  t : ∀ t ∈ ts, 0 < t.2.2
theorem ti_pos {x y : Int × Int} (a : 0 < x.2) (b : 0 < y.2) : 0 < (ti x y).2 := (fr_eq (t := x.1 * y.1) (Int.mul_pos a b)).2.1
theorem vstep_pos {o : Str → Option (Int × Int)} {v : Int × Int} {t : Tm} (h : 0 < v.2) (ho : ∀ x g, o x = some g → 0 < g.2) (ht : 0 < t.2.2) : 0 < (vstep o v t).2 := by
  unfold vstep
  split
  · next y e => exact (pl_val h (ti_pos ht (ho _ _ e))).2.1
  · exact h
theorem vstep_swap {o : Str → Option (Int × Int)} {v : Int × Int} {s t : Tm} (h : 0 < v.2) (ho : ∀ x g, o x = some g → 0 < g.2) (hs : 0 < s.2.2) (ht : 0 < t.2.2) : vstep o (vstep o v s) t = vstep o (vstep o v t) s := by
  cases e : o s.1 with
  | none =>
    have n : ∀ w, vstep o w s = w := fun w => by unfold vstep; rw [e]
    rw [n, n]
  | some y =>
    have n : ∀ w, vstep o w s = pl w (ti s.2 y) := fun w => by unfold vstep; rw [e]
    cases e2 : o t.1 with
    | none =>
      have m : ∀ w, vstep o w t = w := fun w => by unfold vstep; rw [e2]
      rw [m, m]
    | some z =>
      have m : ∀ w, vstep o w t = pl w (ti t.2 z) := fun w => by unfold vstep; rw [e2]
      rw [n, m, m, n]
      exact pl_swap h (ti_pos hs (ho _ _ e)) (ti_pos ht (ho _ _ e2))
theorem valL_perm {o : Str → Option (Int × Int)} {ts us : List Tm} (p : ts.Perm us) : ∀ {f : Int × Int}, 0 < f.2 → PosO o ts → valL o ts f = valL o us f := by
  induction p with
  | nil => exact fun _ _ => rfl
  | cons x p ih =>
    intro f hf po
    show valL o _ (vstep o f x) = valL o _ (vstep o f x)
    exact ih (vstep_pos hf po.o (po.t _ (List.mem_cons_self ..))) ⟨po.o, fun t ht => po.t t (List.mem_cons_of_mem _ ht)⟩
  | swap x y l =>
    intro f hf po
    show valL o l (vstep o (vstep o f y) x) = valL o l (vstep o (vstep o f x) y)
    rw [vstep_swap hf po.o (po.t _ (List.mem_cons_self ..)) (po.t _ (List.mem_cons_of_mem _ (List.mem_cons_self ..)))]
  | trans p q ih1 ih2 =>
    intro f hf po
    exact (ih1 hf po).trans (ih2 hf ⟨po.o, fun t ht => po.t t (p.mem_iff.mpr ht)⟩)
structure Low (v : Int × Int) : Prop where
  p : 0 < v.2
  g : Nat.gcd v.1.natAbs v.2.natAbs = 1
theorem vstep_low {o : Str → Option (Int × Int)} {v : Int × Int} {t : Tm} (h : Low v) (ho : ∀ x g, o x = some g → 0 < g.2) (ht : 0 < t.2.2) : Low (vstep o v t) := by
  unfold vstep
  split
  · next y e =>
    obtain ⟨_, a, b⟩ := pl_val h.p (ti_pos ht (ho _ _ e))
    exact ⟨a, b⟩
  · exact h
theorem vstep_nil {o : Str → Option (Int × Int)} {v : Int × Int} {t : Tm} (h : Low v) (ho : ∀ x g, o x = some g → 0 < g.2) (ht : 0 < t.2.2) (z : t.2.1 = 0) : vstep o v t = v := by
  unfold vstep
  split
  · next y e =>
    have hy := ho _ _ e
    have tp := ti_pos ht hy
    have t0 : (ti t.2 y).1 = 0 := by
      obtain ⟨q1, q2, _⟩ := fr_eq (t := t.2.1 * y.1) (Int.mul_pos ht hy)
      rw [z, Int.zero_mul, Int.zero_mul] at q1
      have q3 : (ti t.2 y).1 * (t.2.2 * y.2) = 0 := by
        show (fr (t.2.1 * y.1) (t.2.2 * y.2)).1 * _ = 0
        rw [z, Int.zero_mul]
        exact q1
      rcases Int.mul_eq_zero.mp q3 with h | h
      · exact h
      · exact absurd h (Int.ne_of_gt (Int.mul_pos ht hy))
    obtain ⟨e1, p1, g1⟩ := pl_val h.p tp
    refine low_uniq p1 h.p g1 h.g ?_
    rw [t0, Int.zero_mul, Int.add_zero] at e1
    refine Int.eq_of_mul_eq_mul_right (Int.ne_of_gt tp) ?_
    rw [Int.mul_assoc, e1]
    grind
  · rfl
theorem valL_kept {o : Str → Option (Int × Int)} : ∀ {ts : List Tm} {f : Int × Int}, Low f → PosO o ts → valL o (ts.filter fun t => decide (t.2.1 ≠ 0)) f = valL o ts f
  | [], _, _, _ => rfl
  | t :: r, f, lf, po => by
    have tp := po.t _ (List.mem_cons_self ..)
    have pr : PosO o r := ⟨po.o, fun t ht => po.t t (List.mem_cons_of_mem _ ht)⟩
    by_cases z : t.2.1 = 0
    · rw [List.filter_cons_of_neg (by simpa using z)]
      show _ = valL o r (vstep o f t)
      rw [vstep_nil lf po.o tp z]
      exact valL_kept lf pr
    · rw [List.filter_cons_of_pos (by simpa using z)]
      show valL o _ (vstep o f t) = valL o r (vstep o f t)
      exact valL_kept (vstep_low lf po.o tp) pr
/-! ### terms as pairs -/
def unD : PyData → Tm
  | .tuple [.str x, .tuple [.int a, .int b]] => (x, (a, b))
  | _ => ("", (0, 1))
theorem un_tm (t : Tm) : unD (tmD t) = t := rfl
theorem drw_ts {ns : List Str} {ds : List PyData} {c : Int × Int} (h : Drw ns ds c) : ∃ ts : List Tm, ds = ts.map tmD ∧ ∀ t ∈ ts, t.1 ∈ ns ∧ Sm 62 t.2 ∧ Nat.gcd t.2.1.natAbs t.2.2.natAbs = 1 := by
  refine ⟨ds.map unD, ?_, fun t ht => ?_⟩
  · rw [List.map_map]
    symm
    refine (List.map_congr_left fun d hd => ?_).trans (List.map_id _)
    obtain ⟨x, f, rfl, _⟩ := (h.t d hd).ex
    rfl
  · obtain ⟨d, hd, rfl⟩ := List.mem_map.mp ht
    obtain ⟨x, f, rfl, a, b, c⟩ := (h.t d hd).ex
    exact ⟨a, b, c⟩
theorem kept_ts {ts : List Tm} {es : List PyData} (p : es.Perm (kept (ts.map tmD))) : ∃ us : List Tm, es = us.map tmD ∧ us.Perm (ts.filter fun t => decide (t.2.1 ≠ 0)) := by
  have e : kept (ts.map tmD) = (ts.filter fun t => decide (t.2.1 ≠ 0)).map tmD := by
    unfold kept
    rw [List.filter_map]
    rfl
  rw [e] at p
  refine ⟨es.map unD, ?_, ?_⟩
  · rw [List.map_map]
    symm
    refine (List.map_congr_left fun d hd => ?_).trans (List.map_id _)
    obtain ⟨t, _, rfl⟩ := List.mem_map.mp (p.mem_iff.mp hd)
    rfl
  · have z := p.map unD
    rw [List.map_map] at z
    refine z.trans ?_
    rw [show (unD ∘ tmD) = id from funext un_tm, List.map_id]
def spMissL (K : PySem.W.Frag) (C : Addr) : Sp := fun vs H Q _ => ∃ (D r od : Addr) (ts : List Tm) (f : Int × Int) (o : Str → Option (Int × Int)), vs = [.ref r, .ref od] ∧ FormAt K C D H r (ts.map tmD) (frD f) ∧ OpsAt K H od o ∧ ts.length ≤ 5 ∧ (∀ t ∈ ts, Sm 62 t.2) ∧ Sm 62 f ∧ (∀ x g, o x = some g → Sm 62 g) ∧
  ∀ H', Evl.Ex H H' → Q (.str (match valF o ts f with | .ok _ => "none" | .error x => x)) H'
/-- the form's own sum is the sum in the order drawn -/
theorem form_val {o : Str → Option (Int × Int)} {ts us : List Tm} {f : Int × Int} (lf : Low f) (po : PosO o ts) (p : us.Perm (ts.filter fun t => decide (t.2.1 ≠ 0))) (al : ∀ t ∈ ts, (o t.1).isSome) : valF o us f = .ok (valL o ts f) := by
  have sub : ∀ t ∈ us, t ∈ ts := fun t ht => (List.mem_filter.mp (p.mem_iff.mp ht)).1
  rw [valF_all fun t ht => al t (sub t ht), valL_perm p lf.p ⟨po.o, fun t ht => po.t t (sub t ht)⟩, valL_kept lf po]
end Qj
namespace Qj
open PySem PySem.Spec PyProof.Rows L2
/-! ### a dict against its copy, the same things in it -/
section
variable {κ : Type} [DecidableEq κ]
theorem hitsR {A : Around} {s : Shared} {kvs : List (Key × V)} {vb : List (Key × Value)} (rb : KV kvs vb) {ks : List (Key × V)} {va : List (Key × Value)} (ra : KV ks va) :
    (∀ p ∈ ks, valV kvs p.1 = some p.2 ∧ ∃ a, p.2 = V.ref a) → PySem.W.KeqHits A s vb va true := by
  unfold KV at ra
  induction ra with
  | nil => intro _; exact .nil
  | @cons p q ps qs h t ih =>
    intro hp
    obtain ⟨h1, h2⟩ := h
    obtain ⟨e, a, f⟩ := hp p List.mem_cons_self
    have rr : RelO (some p.2) (valueAt vb p.1) := by rw [← e]; exact rb.val p.1
    obtain ⟨y, hy, ry⟩ := rr.some_of
    obtain ⟨k, v⟩ := q
    have h1' : p.1 = k := h1
    rw [h1'] at hy
    rw [f] at h2 ry
    cases h2
    cases ry
    show PySem.W.KeqHits A s vb ((k, _) :: qs) (true && true)
    exact .hit hy (SeqAt.EqAt.same _) (ih fun p' hm => hp p' (List.mem_cons_of_mem _ hm))
end
def rNeDR : R2 := fun x y H Q => ∃ a b kvs, x = .ref a ∧ y = .ref b ∧ H a = some (.dK kvs) ∧ H b = some (.dK kvs) ∧ (kvs.map (·.1)).Nodup ∧ (∀ p ∈ kvs, ∃ a, p.2 = V.ref a) ∧ Q (.bl false) H
theorem op_neDR {X : Cx} (hu : X.A.units < cLine) : OpR X (compareOp .NotEq) rNeDR := by
  intro pins s σ H x y v u Q I rx ry h
  obtain ⟨a, b, kvs, rfl, rfl, ea, eb, nd, fl, q⟩ := h
  obtain rfl : v = Value.ref a := rx
  obtain rfl : u = Value.ref b := ry
  obtain ⟨_, ya, va, ra, da⟩ := (show ObjOk X.prog X.w H s.heap a (.dK kvs) from I.hok a _ ea)
  obtain ⟨_, yb, vb, rb, db⟩ := (show ObjOk X.prog X.w H s.heap b (.dK kvs) from I.hok b _ eb)
  have hl : va.length = vb.length := ra.length.symm.trans rb.length
  exact PySem.W.keq_ne (knd := mixKind X.prog X.w) (r := true) ya yb da db hu (fun _ => hitsR rb ra fun p hp => ⟨val_nodup nd p hp, fl p hp⟩) (fin_bl I q (by simp [hl]))
/-! ### a dict is filled -/
/-- what a dict says of names, and that it holds nothing but names -/
structure OpsD (K : PySem.W.Frag) (H : Hp) (od : Addr) (o : Str → Option (Int × Int)) (n : Nat) : Prop where
  ex : ∃ kvs, H od = some (.dK kvs) ∧ kvs.length ≤ n ∧ (kvs.map (·.1)).Nodup ∧ (∀ p ∈ kvs, ∃ a, p.2 = V.ref a) ∧ ∀ x, (o x = none → valV kvs (.inr x) = none) ∧ (∀ g, o x = some g → ∃ p, valV kvs (.inr x) = some (.ref p) ∧ FrA K H p g)
theorem OpsD.at {K : PySem.W.Frag} {H : Hp} {od : Addr} {o : Str → Option (Int × Int)} {n : Nat} (h : OpsD K H od o n) : OpsAt K H od o := by
  obtain ⟨kvs, a, _, _, _, b⟩ := h.ex
  exact ⟨kvs, a, b⟩
def putO (o : Str → Option (Int × Int)) (x : Str) (g : Int × Int) : Str → Option (Int × Int) := fun y => if y = x then some g else o y
theorem OpsD.nil {K : PySem.W.Frag} {H : Hp} {od : Addr} (h : H od = some (.dK [])) : OpsD K H od (fun _ => none) 0 := ⟨[], h, Nat.le_refl 0, List.nodup_nil, (fun p hp => nomatch hp), fun x => ⟨fun _ => rfl, fun g hg => nomatch hg⟩⟩
end Qj
namespace Qj
open PySem PySem.Spec PyProof.Rows L2
theorem sqT_dk {K : PySem.W.Frag} {H : Hp} {F : Addr} {ks : List (Key × V)} {o : HO} (hF : H F = some (.dK ks)) {a : Addr} {xs : List V} (h : SqT K H a xs) : SqT K (upd H F o) a xs := by
  rcases h with (h | ⟨q, h⟩) | h
  · exact .inl (.inl (by rw [upd_ne (fun z => by subst z; rw [hF] at h; cases h)]; exact h))
  · exact .inl (.inr ⟨q, by rw [upd_ne (fun z => by subst z; rw [hF] at h; cases h)]; exact h⟩)
  · exact .inr h
theorem OpsAt.put {K : PySem.W.Frag} {H : Hp} {od p : Addr} {o : Str → Option (Int × Int)} {x : Str} {g : Int × Int} {kvs : List (Key × V)} (hd : H od = some (.dK kvs)) (hv : ∀ x, (o x = none → valV kvs (.inr x) = none) ∧ (∀ g, o x = some g → ∃ p, valV kvs (.inr x) = some (.ref p) ∧ FrA K H p g)) (hp : FrA K H p g) :
    OpsAt K (upd H od (.dK (putK kvs (.inr x) (.ref p)))) od (putO o x g) := by
  refine ⟨_, upd_same, fun y => ⟨fun h => ?_, fun g2 h => ?_⟩⟩
  · rw [L2.valV_put]
    unfold putO at h
    by_cases e : y = x
    · rw [if_pos e] at h
      cases h
    · rw [if_neg e] at h
      rw [if_neg (fun z => e (Sum.inr.inj z))]
      exact (hv y).1 h
  · rw [L2.valV_put]
    unfold putO at h
    by_cases e : y = x
    · rw [if_pos e] at h
      cases h
      rw [if_pos (congrArg Sum.inr e)]
      exact ⟨p, rfl, sqT_dk hd hp⟩
    · rw [if_neg e] at h
      rw [if_neg (fun z => e (Sum.inr.inj z))]
      obtain ⟨q, a, b⟩ := (hv y).2 g2 h
      exact ⟨q, a, sqT_dk hd b⟩
theorem OpsD.put {K : PySem.W.Frag} {H : Hp} {od p : Addr} {o : Str → Option (Int × Int)} {n : Nat} {x : Str} {g : Int × Int} {kvs : List (Key × V)} (hd : H od = some (.dK kvs)) (l : kvs.length ≤ n) (nd : (kvs.map (·.1)).Nodup) (rf : ∀ p ∈ kvs, ∃ a, p.2 = V.ref a)
    (hv : ∀ x, (o x = none → valV kvs (.inr x) = none) ∧ (∀ g, o x = some g → ∃ p, valV kvs (.inr x) = some (.ref p) ∧ FrA K H p g)) (hp : FrA K H p g) (new : o x = none) :
    OpsD K (upd H od (.dK (putK kvs (.inr x) (.ref p)))) od (putO o x g) (n + 1) := by
  obtain ⟨k2, a, b⟩ := OpsAt.put hd hv hp (x := x)
  rw [upd_same] at a
  cases a
  have nv := (hv x).1 new
  refine ⟨_, upd_same, ?_, ?_, ?_, b⟩
  · rw [L2.putK_new _ nv, List.length_append, List.length_singleton]
    omega
  · rw [L2.putK_new _ nv, List.map_append, List.nodup_append]
    refine ⟨nd, by simp, fun y hy z hz => ?_⟩
    rw [List.map_singleton, List.mem_singleton] at hz
    subst hz
    intro e
    subst e
    obtain ⟨q, hq, e⟩ := List.mem_map.mp hy
    have : valV kvs q.1 = some q.2 := L2.val_nodup nd q hq
    rw [e] at this
    rw [this] at nv
    cases nv
  · intro q hq
    rw [L2.putK_new _ nv] at hq
    rcases List.mem_append.mp hq with h | h
    · exact rf q h
    · rw [List.mem_singleton.mp h]
      exact ⟨p, rfl⟩
end Qj
namespace Qj
open PySem PySem.Spec PyProof.Rows L2
theorem op_eqDK {X : Cx} (K : PySem.W.Frag) (hK : X.K = K) (hu : X.A.units + 64 < cLine) : OpR X (compareOp .Eq) (rEqD K) := hK ▸ op_eqD hu
theorem dp_strsL {K : PySem.W.Frag} {H : Hp} {p : Addr} : ∀ {ns : List Str}, H p = some (.lst (ns.map V.str)) → Dp K H (.ref p) (.list (ns.map PyData.str)) := by
  intro ns h
  refine .lst (SqL.of h) ?_
  clear h
  induction ns with
  | nil => exact .nil
  | cons x r ih => exact .cons (.str x) ih
theorem eqv_strs_nil {ns : List Str} : PyData.eqv (.list (ns.map PyData.str)) (.list []) = ns.isEmpty := by
  cases ns with
  | nil => rfl
  | cons x r => rfl
theorem opsAt_bu {K : PySem.W.Frag} {H H' : Hp} {od D : Addr} {o : Str → Option (Int × Int)} (h : OpsAt K H od o) (k : DeckAt H D) (e : Bu D H H') : OpsAt K H' od o := by
  obtain ⟨kvs, a, f⟩ := h
  refine ⟨kvs, e _ _ (fun z => ?_) a, fun x => ⟨(f x).1, fun g hg => ?_⟩⟩
  · obtain ⟨g, m, n, hD, _⟩ := k
    subst z
    rw [hD] at a
    cases a
  · obtain ⟨p, u, v⟩ := (f x).2 g hg
    exact ⟨p, u, sqT_bu k e v⟩
theorem DeckAt.tup_ne {H : Hp} {D x : Addr} (k : DeckAt H D) {xs : List V} (h : H x = some (.tup xs)) : x ≠ D := fun z => by
  obtain ⟨g, m, n, hD, _⟩ := k
  subst z
  rw [hD] at h
  cases h
theorem DeckAt.dk_ne {H : Hp} {D x : Addr} (k : DeckAt H D) {xs : List (Key × V)} (h : H x = some (.dK xs)) : x ≠ D := fun z => by
  obtain ⟨g, m, n, hD, _⟩ := k
  subst z
  rw [hD] at h
  cases h
theorem DeckAt.ins_ne {H : Hp} {D x C d : Addr} (k : DeckAt H D) {xs : List (Str × V)} (h : H x = some (.ins C d xs)) : x ≠ D := fun z => by
  obtain ⟨g, m, n, hD, _⟩ := k
  subst z
  rw [hD] at h
  cases h
end Qj
namespace Qj
open PySem PySem.Spec PySem.Calls PyProof.Rows L2
/-! ### operators that an own class says itself -/
theorem back_of {v : V} {z : Value} (r : RelV v z) {Q : Value → Shared → Prop} {s : Shared} (q : Q z s) : PySem.W.CmpBack Q z s := by
  cases v with
  | non => cases r; exact q
  | bl b => cases r; exact q
  | int i => obtain ⟨t, e⟩ := (show ∃ t, z = Value.int i t from r); cases e; exact q
  | str x => obtain ⟨t, e⟩ := (show ∃ t, z = Value.str x t from r); cases e; exact q
  | byt b => obtain ⟨t, e⟩ := (show ∃ t, z = Value.bytes b t from r); cases e; exact q
  | flt b => obtain ⟨t, e⟩ := (show ∃ t, z = Value.float b t from r); cases e; exact q
  | ref a => cases r; exact q
  | ty n => cases r; exact q
section
variable {X : Cx} {CX : CXT} {C f : Addr} {k : Nat} {fd : FuncData} {ps : List Str} {sp : Sp} {E : XK}
/-- a == y: what a's own method says; t is y's type -/
def rCmpOwn (K : PySem.W.Frag) (C : Addr) (sp : Sp) (E : XK) : R2 := fun x y H Q => ∃ (a dx : Addr) (fs : List (Str × V)) (t : Value), x = .ref a ∧ H a = some (.ins C dx fs) ∧ TyX K H y t ∧ PySem.W.notFirst K C t = true ∧ sp [.ref a, y] H Q E
theorem op_cmpOwn {op : CmpOp} (ho : op ≠ .In ∧ op ≠ .NotIn ∧ op ≠ .Is ∧ op ≠ .IsNot) (hu : X.A.units < cLine) (hm : Meth X.K C (PySem.cmpInfo op).2.1 f) (F : FnOk X.prog X.w X.K X.mg X.base CX k f fd ps sp) (hr : Room k X.A) (hb : Binds X.K fd ps []) (hx : Passes CX X E) : OpR X (compareOp op) (rCmpOwn X.K C sp E) := by
  intro pins s σ H x y v u Q I rx ry h
  obtain ⟨a, dx, fs, t, rfl, ha, ty, nf, q⟩ := h
  cases rx
  obtain ⟨mA, O, _⟩ := ins_get I.hok ha
  obtain ⟨od, J, _⟩ := O.look
  obtain ⟨mm, fr⟩ := I.fr
  obtain ⟨P, Z, p, _⟩ := kit_of I ry ty
  have key : wpAny (model X.prog X.w) X.A (richCompare op (.ref a) u) (EP X pins σ Q) X.xe s := PySem.W.cmp_K hu fr I.mod.kin J (Z.ty _ _ I.kIn p) nf hm.at_ hm.fn (thn (run_fn (us := [.ref a, u]) (vs := [.ref a, y]) (dvs := []) F hr hb .nil hx I (.cons rfl (.cons ry .nil)) q) fun z s' ⟨r, H', I', rz, q'⟩ => back_of rz ⟨r, H', I', rz, q'⟩)
  cases op with
  | In => exact absurd rfl ho.1
  | NotIn => exact absurd rfl ho.2.1
  | Is => exact absurd rfl ho.2.2.1
  | IsNot => exact absurd rfl ho.2.2.2
  | _ => exact key
/-- -a -/
def rNegOwn (C : Addr) (sp : Sp) (E : XK) : V → Hp → VK → Prop := fun x H Q => ∃ (a dx : Addr) (fs : List (Str × V)), x = .ref a ∧ H a = some (.ins C dx fs) ∧ sp [.ref a] H Q E
theorem un_negOwn (hm : Meth X.K C "__neg__" f) (F : FnOk X.prog X.w X.K X.mg X.base CX k f fd ps sp) (hr : Room k X.A) (hb : Binds X.K fd ps []) (hx : Passes CX X E) : UnR X (unaryOp .USub) (rNegOwn C sp E) := by
  intro pins s σ H x v Q I rx h
  obtain ⟨a, dx, fs, rfl, ha, q⟩ := h
  cases rx
  obtain ⟨mA, O, _⟩ := ins_get I.hok ha
  obtain ⟨od, J, _⟩ := O.look
  obtain ⟨mm, fr⟩ := I.fr
  exact PySem.W.ksp_neg fr I.mod.kin J hm.at_ hm.fn (run_fn (us := [.ref a]) (vs := [.ref a]) (dvs := []) F hr hb .nil hx I (.cons rfl .nil) q)
/-- a + b, both of the class -/
def rBinOwn (C : Addr) (sp : Sp) (E : XK) : R2 := fun x y H Q => ∃ (a b dx dy : Addr) (fs gs : List (Str × V)), x = .ref a ∧ y = .ref b ∧ H a = some (.ins C dx fs) ∧ H b = some (.ins C dy gs) ∧ sp [.ref a, .ref b] H Q E
theorem op_binOwn {op : Operator} (hc : PySem.W.selfFirst X.K C = true) (hm : Meth X.K C (PySem.dunder op.info.2) f) (F : FnOk X.prog X.w X.K X.mg X.base CX k f fd ps sp) (hr : Room k X.A) (hb : Binds X.K fd ps []) (hx : Passes CX X E) : OpR X (binaryOp op) (rBinOwn C sp E) := by
  intro pins s σ H x y v u Q I rx ry h
  obtain ⟨a, b, dx, dy, fs, gs, rfl, rfl, ha, hb2, q⟩ := h
  cases rx
  cases ry
  obtain ⟨mA, O, _⟩ := ins_get I.hok ha
  obtain ⟨od, J, _⟩ := O.look
  obtain ⟨mB, O2, _⟩ := ins_get I.hok hb2
  obtain ⟨od2, J2, _⟩ := O2.look
  obtain ⟨mm, fr⟩ := I.fr
  exact PySem.W.binop_K fr I.mod.kin J J2.type hc hm.at_ hm.fn (thn (run_fn (us := [.ref a, .ref b]) (vs := [.ref a, .ref b]) (dvs := []) F hr hb .nil hx I (.cons rfl (.cons rfl .nil)) q) fun z s' ⟨r, H', I', rz, q'⟩ => back_of rz ⟨r, H', I', rz, q'⟩)
/-- a * t, t of a type that does no arithmetic -/
theorem bin_other {prog : Program} {w : World} {K : PySem.W.Frag} {h₀ : Heap} {L a : Addr} {m : Str → Option Value} {ox : Obj} {od : Option Obj} {A : Around} {E : Value → Shared → Prop} {s : Shared} {T : String} {op : Operator} {b : Value} {Q : Value → Shared → Prop}
    (F : PyProof.Rows.Fr h₀ L s.heap m) (X₀ : K.In h₀) (I : PySem.W.InstAt s.heap a ox C od) (tb : PySem.W.Looks (model prog w) s.heap (typeOf b) (.type T)) (hc : PySem.W.selfFirst K C = true)
    (hm : Meth K C (PySem.dunder op.info.2) f) (no : fillsNumberSlot (.type T) op.info.2 = pure false)
    (h : wpAny (model prog w) A (call (.ref f) [.ref a, b]) (PySem.W.CmpBack Q) E s) : wpAny (model prog w) A (binaryOp op (.ref a) b) Q E s := by
  obtain ⟨cd, rest, c1, c2⟩ := PySem.W.ksp_first hc
  have hX := X₀.keeps F.keep
  have step := PySem.W.ksp_try hX I hm.at_ hm.fn h
  have yes : PySem.W.Looks (model prog w) s.heap (fillsNumberSlot (.ref C) op.info.2) true := PySem.W.fills_K hX c1 c2 hm.at_
  have unl : (Value.ref C == Value.type T) = false := rfl
  simp only [binaryOp, binaryOp1]
  refine wpAny_holding (wpAny_bind (wpAny_bind (I.type.here (wpAny_bind (tb.here (wpAny_bind (yes.here ?_)))))))
  simp only [unl, no, Bool.false_eq_true, if_false]
  refine wpAny_bind (wpAny_pure ?_)
  simp only [Bool.and_false, Bool.false_eq_true, if_false, Bool.false_and]
  refine wpAny_bind (wpAny_pure ?_)
  simp only [Bool.false_eq_true, if_false, if_true]
  refine wpAny_bind (wpAny_mono step (fun r s' hr' => ?_) fun _ _ e => e)
  obtain ⟨v, rfl, q⟩ := hr'
  exact wpAny_pure (wpAny_pure q)
theorem noFill_tup_mul : fillsNumberSlot (.type "tuple") "mul" = pure false := by
  have h1 : typeLookup (.type "tuple") (PySem.dunder "mul") = pure (some (.builtin "tuple.__mul__")) := by
    rw [typeLookup_type, builtinLookup_eq_fast]
    kernel_rfl
  have h2 : typeLookup (.type "tuple") (dunderR "mul") = pure (some (.builtin "tuple.__rmul__")) := by
    rw [typeLookup_type, builtinLookup_eq_fast]
    kernel_rfl
  exact PySem.fillsNumberSlot_seq h1 (by decide +kernel) h2 (by decide +kernel)
def rMulOwn (K : PySem.W.Frag) (C : Addr) (sp : Sp) (E : XK) : R2 := fun x y H Q => ∃ (a p dx : Addr) (fs : List (Str × V)) (xs : List V), x = .ref a ∧ y = .ref p ∧ H a = some (.ins C dx fs) ∧ SqT K H p xs ∧ sp [.ref a, .ref p] H Q E
theorem op_mulOwn (hc : PySem.W.selfFirst X.K C = true) (hm : Meth X.K C "__mul__" f) (F : FnOk X.prog X.w X.K X.mg X.base CX k f fd ps sp) (hr : Room k X.A) (hb : Binds X.K fd ps []) (hx : Passes CX X E) : OpR X (binaryOp .Mult) (rMulOwn X.K C sp E) := by
  intro pins s σ H x y v u Q I rx ry h
  obtain ⟨a, p, dx, fs, xs, rfl, rfl, ha, hp, q⟩ := h
  cases rx
  cases ry
  obtain ⟨mA, O, _⟩ := ins_get I.hok ha
  obtain ⟨od, J, _⟩ := O.look
  obtain ⟨mm, fr⟩ := I.fr
  obtain ⟨its, rv, ⟨o, e1, e2, _⟩, _⟩ := I.tuple hp
  refine bin_other (op := .Mult) (T := "tuple") fr I.mod.kin J ?_ hc hm noFill_tup_mul (thn (run_fn (us := [.ref a, .ref p]) (vs := [.ref a, .ref p]) (dvs := []) F hr hb .nil hx I (.cons rfl (.cons rfl .nil)) q) fun z s' ⟨r, H', I', rz, q'⟩ => back_of rz ⟨r, H', I', rz, q'⟩)
  exact (PySem.W.kitx_tuple (K := X.K)).ty _ _ I.kIn ⟨o, e1, e2⟩
end
end Qj
namespace Qj
open PySem PySem.Spec PySem.Calls PyProof.Rows L2
/-! ### a != b by the class's own == -/
section
variable {X : Cx} {CX : CXT} {C f : Addr} {k : Nat} {fd : FuncData} {ps : List Str} {sp : Sp} {E : XK}
/-- the callee runs somewhere below -/
theorem run_in {A : Around} {pins : List (Addr × Obj)} {σ : L2.St} {H : Hp} {s : Shared} {Q : VK} {us : List Value} {vs : List V} (F : FnOk X.prog X.w X.K X.mg X.base CX k f fd ps sp) (sb : Sub X k A) (hb : Binds X.K fd ps []) (hx : Passes CX X E) (I : Inv X pins σ H s) (r : Vals vs us) (h : sp vs H Q E) :
    wpAny (model X.prog X.w) A (call (.ref f) us) (EP X pins σ Q) X.xe s := by
  have z := I.env0
  have z2 : Env0 X.prog X.w X.K X.mg X.base A X.stack s H := { frames := by rw [sb.fr]; exact z.frames, mod := z.mod, bs := z.bs, bsz := z.bsz, funs := z.funs, frf := z.frf, hok := z.hok, bare := z.bare }
  have ln : us.length = ps.length := r.length.symm.trans (F.len _ _ _ _ h)
  have bd := hb s us I.kIn (by rw [List.append_nil]; exact ln)
  rw [List.append_nil] at bd
  refine wpAny_call (codeAny_mono (F.run A X.stack s H ⟨us, []⟩ us vs Q E sb.room z2 bd r h) fun r s' q => ?_)
  match r, q with
  | .error e, q => exact hx pins σ H s e s' I q
  | .ok (.ret w), q => exact I.after q
  | .ok .next, q => exact False.elim q
  | .ok .brk, q => exact False.elim q
  | .ok .cont, q => exact False.elim q
theorem rich_by {prog : Program} {w : World} {K : PySem.W.Frag} {a : Addr} {ox : Obj} {od : Option Obj} {A : Around} {E : Value → Shared → Prop} {s : Shared} {op : CmpOp} {b tb : Value} {Q : Value → Shared → Prop} (hu : A.units < cLine) (X : K.In s.heap) (I : PySem.W.InstAt s.heap a ox C od)
    (hb : PySem.W.Looks (model prog w) s.heap (typeOf b) tb) (nf : PySem.W.notFirst K C tb = true) (h : wpAny (model prog w) A (tryCompare (.ref a) (PySem.cmpInfo op).2.1 b) (fun r s' => ∃ v, r = some v ∧ Q v s') E s) : wpAny (model prog w) A (richCompare op (.ref a) b) Q E s := by
  have fin : wpAny (model prog w) A (tryCompare (.ref a) (PySem.cmpInfo op).2.1 b >>= fun r => match r with
      | some v => pure v
      | none => richCompare op (.ref a) b) Q E s := wpAny_bind (wpAny_mono h (fun r s' z => by
    obtain ⟨v, e, q⟩ := z
    subst e
    exact wpAny_pure q) fun _ _ e => e)
  unfold richCompare
  simp only [oneThing_ref]
  refine wpAny_holding (wpAny_bind (wpAny_cRoomFor hu (wpAny_bind (I.type.here (wpAny_bind (hb.here ?_))))))
  have go : ∀ {t : Option Value → Sem Value} {s' : Shared}, (∀ v, t (some v) = pure v) → wpAny (model prog w) A (tryCompare (.ref a) (PySem.cmpInfo op).2.1 b) (fun r s' => ∃ v, r = some v ∧ Q v s') E s' → wpAny (model prog w) A (tryCompare (.ref a) (PySem.cmpInfo op).2.1 b >>= t) Q E s' := fun ht z =>
    wpAny_bind (wpAny_mono z (fun r s' y => by
      obtain ⟨v, e, q⟩ := y
      subst e
      rw [ht]
      exact wpAny_pure q) fun _ _ e => e)
  by_cases e : (Value.ref C != tb) = true
  · rw [if_pos e]
    have sf : PySem.W.subIn K tb (.ref C) = some false := by
      rcases Bool.or_eq_true_iff.mp nf with z | z
      · rw [beq_iff_eq.mp z] at e
        simp at e
      · exact beq_iff_eq.mp z
    refine wpAny_bind ((PySem.W.looks_subIn X sf).here ?_)
    simp only [Bool.false_eq_true, if_false]
    exact go (fun _ => rfl) h
  · rw [if_neg e]
    refine wpAny_bind (wpAny_pure ?_)
    simp only [Bool.false_eq_true, if_false]
    exact go (fun _ => rfl) h
/-- what the class object's own != does -/
theorem ne_body {prog : Program} {w : World} {K : PySem.W.Frag} {a : Addr} {ox : Obj} {od : Option Obj} {A : Around} {E : Value → Shared → Prop} {s : Shared} {b : Value} {Q : Fin → Shared → Prop} (hu : A.units < cLine) (X : K.In s.heap) (I : PySem.W.InstAt s.heap a ox C od) (hm : Meth K C "__eq__" f)
    (h : wpAny (model prog w) A (call (.ref f) [.ref a, b]) (fun v s' => ∃ c, v = .bool c ∧ Q (.done (.ret (.bool (!c)))) s') E s) : wpAny (model prog w) A (Builtin.«object.__ne__» ⟨[.ref a, b], []⟩) Q E s := by
  unfold Builtin.«object.__ne__»
  repeat (first
    | with_reducible refine wpAny_cRoomFor hu ?_
    | (refine wpAny_bind (m := callSpecialIfBound? (.ref a) (Str.ofString "__eq__") [b]) (PySem.W.ifBound_K X I hm.at_ hm.fn (wpAny_mono h (fun r s' hr => by
        obtain ⟨c, rfl, hq⟩ := hr
        repeat (first | exact hq | exact wpAny_pure hq | exact wpAny_truthy_bool hq | (refine wpAny_bind (m := truthy (.bool _)) (wpAny_truthy_bool ?_)) | wp_step)) fun _ _ e => e)))
    | wp_step)
theorem bound_ne {M : Model} {K : PySem.W.Frag} {a : Addr} {ox : Obj} {od : Option Obj} {A : Around} {E : Value → Shared → Prop} {s : Shared} {vs : List Value} {Q : Option Value → Shared → Prop} (X : K.In s.heap) (I : PySem.W.InstAt s.heap a ox C od) (hs : PySem.W.findIn K (.ref C) "__ne__" = some (some (.builtin "object.__ne__")))
    (h : wpAny M A (call (.builtin "object.__ne__") (.ref a :: vs)) (fun v => Q (some v)) E s) : wpAny M A (callSpecialIfBound? (.ref a) "__ne__" vs) Q E s := by
  simp only [callSpecialIfBound?, bindSpecialIfBound?]
  have fin : wpAny M A (call (.builtin "object.__ne__") ([.ref a] ++ vs) >>= fun v => pure (some v)) Q E s := wpAny_bind (wpAny_mono h (fun v s' q => wpAny_pure q) fun _ _ q => q)
  refine wpAny_holding (wpAny_bind (wpAny_bind (wpAny_bind (I.type.here ((PySem.W.looks_findIn X hs).here ?_)))))
  refine wpAny_bind (wpAny_askSetting (wpAny_ite ?_))
  split
  · exact wpAny_bind (wpAny_of_eq (PySem.F.cmp_object.ne.bind _) (wpAny_pure (by exact fin)))
  · exact wpAny_tryCatch (wpAny_bind (wpAny_of_eq (PySem.F.cmp_object.ne.bind _) (wpAny_pure (by exact fin))))
/-- a != y by the class's own == -/
def rNeOwn (K : PySem.W.Frag) (C : Addr) (sp : Sp) (E : XK) : R2 := fun x y H Q => ∃ (a dx : Addr) (fs : List (Str × V)) (t : Value), x = .ref a ∧ H a = some (.ins C dx fs) ∧ TyX K H y t ∧ PySem.W.notFirst K C t = true ∧ sp [.ref a, y] H (fun r H' => ∃ c, r = .bl c ∧ Q (.bl (!c)) H') E
theorem op_neOwn (hu : X.A.units + 1 < cLine) (hn : PySem.W.findIn X.K (.ref C) "__ne__" = some (some (.builtin "object.__ne__"))) (ho : PySem.W.mroIn X.K C (.type "object") = some true) (hm : Meth X.K C "__eq__" f) (F : FnOk X.prog X.w X.K X.mg X.base CX k f fd ps sp) (hr : Room (k + 1) X.A) (hb : Binds X.K fd ps []) (hx : Passes CX X E) : OpR X (compareOp .NotEq) (rNeOwn X.K C sp E) := by
  intro pins s σ H x y v u Q I rx ry h
  obtain ⟨a, dx, fs, t, rfl, ha, ty, nf, q⟩ := h
  cases rx
  obtain ⟨mA, O, _⟩ := ins_get I.hok ha
  obtain ⟨od, J, _⟩ := O.look
  obtain ⟨P, Z, p, _⟩ := kit_of I ry ty
  have key : wpAny (model X.prog X.w) X.A.in1 (call (.ref f) [.ref a, u]) (fun v s' => ∃ c, v = .bool c ∧ EP X pins σ Q (.bool (!c)) s') X.xe s :=
    thn (run_in (us := [.ref a, u]) (vs := [.ref a, y]) F ⟨hr.in1, rfl⟩ hb hx I (.cons rfl (.cons ry .nil)) q) fun z s' ⟨r, H', I', rz, c, e, q'⟩ => by
      subst e
      obtain rfl : z = .bool c := rz
      exact ⟨c, rfl, .bl (!c), H', I', rfl, q'⟩
  refine rich_by (op := .NotEq) (Nat.lt_of_succ_lt hu) I.kIn J (Z.ty _ _ I.kIn p) nf ?_
  show wpAny _ _ (tryCompare (.ref a) "__ne__" u) _ _ _
  unfold tryCompare
  refine wpAny_bind (bound_ne I.kIn J hn (wpAny_call (codeAny_call_builtin PySem.F.cmp_object.ne.plain PySem.F.cmpEntry_ne (PySem.W.check_slot PySem.F.cmpKind_ne PySem.F.cmpSplit_ne (J.type.andThen (PySem.W.looks_mroIn I.kIn ho)) (PySem.F.cmpArgs_ne _ _) (ne_body (A := X.A.in1) hu I.kIn J hm (thn key fun v s' ⟨c, e, z⟩ => ?_))))))
  subst e
  refine ⟨c, rfl, ?_⟩
  first | exact wpAny_pure ⟨_, rfl, z⟩ | exact wpAny_pure (wpAny_pure ⟨_, rfl, z⟩)
end
end Qj
namespace Qj
open PySem PySem.Spec PySem.Calls PyProof.Rows L2
open AutoSeq1 (wpAny_loadPart')
open MeetsSeq MeetsSeq2 MeetsSeq3 SeqRoads2
/-! ### a text against an empty dict; lists that stand apart -/
section
variable {A : Around} {s : Shared}
theorem dict_says_no {l : Addr} {o : Obj} (b : Str) (u : Tok) : Meets (Builtin.«dict.__eq__» ⟨[.ref l, .str b u], []⟩) (fun _ R s => s.heap.get? l = some o ∧ o.cls = .type "dict" ∧ (∃ es ep, o.data = .dict es ep) ∧ R (.ok (.ret .notImplemented)) s) :=
  .of_wp fun prog w A R s h => by
    obtain ⟨hp, g, d, tk, os⟩ := s
    obtain ⟨oc, od, odt, osl⟩ := o
    obtain ⟨hl, hc, ⟨es, ep, hd⟩, h⟩ := h
    simp only at hc hd
    subst hc hd
    have f1 := F.sub_str_dict
    wp_walk using wpAny_loadPart' hl
    exact ⟨_, rfl, h⟩
theorem str_says_no {l : Addr} {o : Obj} (b : Str) (u : Tok) : Meets (Builtin.«str.__eq__» ⟨[.str b u, .ref l], []⟩) (fun _ R s => s.heap.get? l = some o ∧ (∃ es ep, o.data = .dict es ep) ∧ R (.ok (.ret .notImplemented)) s) :=
  .of_wp fun prog w A R s h => by
    obtain ⟨hp, g, d, tk, os⟩ := s
    obtain ⟨oc, od, odt, osl⟩ := o
    obtain ⟨hl, ⟨es, ep, hd⟩, h⟩ := h
    simp only at hd
    subst hd
    wp_walk using wpAny_loadPart' hl, wpAny_load hl
    exact ⟨_, rfl, h⟩
theorem rc_str_dict {l : Addr} {o : Obj} (b : Str) (u : Tok) (ho : s.heap.get? l = some o) (hc : o.cls = .type "dict") (hd : ∃ es ep, o.data = .dict es ep) (hu : A.units < cLine) : SeqAt.RcAt A s (.str b u) (.ref l) false := fun prog w E Q h =>
  SeqAt.rc_eq_decline_or (k := false) (typeIs_str s b u) ⟨_, ho, hc⟩ (by decide) F.sub_dict_str F.slot_str_eq F.slot_dict_eq_refl
    (fun _ q => call_meets F.slot_str_eq (typeIs_str s b u) F.entry_str_eq (F.args_str_eq_2 _ _) (str_says_no b u) ⟨ho, hd, q⟩)
    (fun _ q => call_meets F.slot_dict_eq_refl ⟨_, ho, hc⟩ F.entry_dict_eq (F.args_dict_eq_2 _ _) (dict_says_no b u) ⟨ho, hc, hd, q⟩)
    (fun _ q => wpAny_of_eq (rfl : isSame (.str b u) (.ref l) = pure false) q) (.inr hu) h
theorem eq_str_dict {l : Addr} {o : Obj} (b : Str) (u : Tok) (ho : s.heap.get? l = some o) (hc : o.cls = .type "dict") (hd : ∃ es ep, o.data = .dict es ep) (hu : A.units < cLine) : SeqAt.EqAt A s (.str b u) (.ref l) false := fun prog w E Q h => by
  unfold eqBool
  refine wpAny_holding (wpAny_ite_split (fun z => absurd (eq_of_beq z) nofun) fun _ => ?_)
  exact wpAny_bind (rc_str_dict b u ho hc hd hu prog w E _ (wpAny_truthy_bool h))
end
/-- a value that a text is compared with: it holds no dict, or is an empty one -/
structure Cmpd (d : PyData) : Prop where
  p : Plain d ∨ d = .dict []
section
variable {X : Cx}
theorem eq_any {A : Around} {pins : List (Addr × Obj)} {σ : L2.St} {H : Hp} {s : Shared} {D : Addr} (I : Inv X pins σ H s) (hu : A.units + 64 < cLine) {v : V} {u : Value} {d : PyData} {x : Str} {t : Tok} (hv : Dt X.K D H v d) (r : RelV v u) (c : Cmpd d) (ok : SeqAt.shaped (.str x) = true) :
    SeqAt.EqAt A s (.str x t) u (PyData.eqv (.str x) d) := by
  rcases c.p with c | c
  · obtain ⟨as, q⟩ := Dp.reads I d v u (Dt.dp _ c.nd hv) r
    exact SeqAt.eqAt_reads (.str x) d A s _ _ _ _ (.str x t) q (SeqAt.canLay_of_shaped ok) (SeqAt.canLay_of_shaped c.sh) (SeqAt.room_of_shaped ok hu)
  · subst c
    cases hv with
    | @dic a e =>
      cases r
      obtain ⟨_, hs, vs, kv, o, es, ep, ho, xd, hd, _⟩ := dk_of I.hok e
      have z : PyData.eqv (.str x) (.dict []) = false := by simp only [PyData.eqv]
      rw [z]
      exact eq_str_dict x t ho xd.1 ⟨_, _, hd⟩ (by omega)
/-- text == v -/
def rEqAny (K : PySem.W.Frag) : R2 := fun x y H Q => ∃ (D : Addr) (n : Str) (d : PyData), x = .str n ∧ Dt K D H y d ∧ Cmpd d ∧ SeqAt.shaped (.str n) = true ∧ Q (.bl (PyData.eqv (.str n) d)) H
theorem op_eqAny (K : PySem.W.Frag) (hK : X.K = K) (hu : X.A.units + 64 < cLine) : OpR X (compareOp .Eq) (rEqAny K) := by
  subst hK
  intro pins s σ H x y v u Q I rx ry h
  obtain ⟨D, n, d, rfl, hv, c, ok, q⟩ := h
  obtain ⟨t, rfl⟩ := rx
  have fin : ∃ z H', Inv X pins σ H' s ∧ RelV z (.bool (PyData.eqv (.str n) d)) ∧ Q z H' := ⟨.bl _, H, I, rfl, q⟩
  rcases c.p with c | c
  · obtain ⟨as, r1⟩ := Dp.reads I d y u (Dt.dp _ c.nd hv) ry
    exact SeqAt.compareEq_shaped (.str n t) r1 ok c.sh hu fin
  · subst c
    cases hv with
    | @dic a e =>
      cases ry
      obtain ⟨_, hs, vs, kv, o, es, ep, ho, xd, hd, _⟩ := dk_of I.hok e
      have z : PyData.eqv (.str n) (.dict []) = false := by simp only [PyData.eqv]
      rw [z] at fin
      exact rc_str_dict n t ho xd.1 ⟨_, _, hd⟩ (by omega) X.prog X.w X.xe _ fin
/-- v in a list of texts -/
def rInAny (K : PySem.W.Frag) : R2 := fun x y H Q => ∃ (D L : Addr) (ns : List Str) (d : PyData), y = .ref L ∧ H L = some (.lst (ns.map V.str)) ∧ Dt K D H x d ∧ Cmpd d ∧ (∀ n ∈ ns, SeqAt.shaped (.str n) = true) ∧ Q (.bl (ns.any fun n => PyData.eqv (.str n) d)) H
theorem any_strsD {d : PyData} : ∀ {ns : List Str} {us : List Value}, Vals (ns.map V.str) us → (us.any fun u => match u with
    | .str n _ => PyData.eqv (.str n) d
    | _ => false) = ns.any fun n => PyData.eqv (.str n) d
  | [], _, r => by cases r; rfl
  | n :: ns, _, r => by
    cases r with
    | cons r1 r2 =>
      obtain ⟨t, rfl⟩ := r1
      rw [List.any_cons, List.any_cons, any_strsD r2]
theorem op_inAny (K : PySem.W.Frag) (hK : X.K = K) (hu : X.A.units + 65 < cLine) : OpR X (compareOp .In) (rInAny K) := by
  subst hK
  intro pins s σ H x y v u Q I rx ry h
  obtain ⟨D, L, ns, d, rfl, hL, hv, c, ok, q⟩ := h
  cases ry
  obtain ⟨its, rv, hl, _⟩ := I.list (SqL.of hL)
  refine SeqAt.in_listAt (fun u => match u with
    | .str n _ => PyData.eqv (.str n) d
    | _ => false) hl.isList (fun z hz => ?_) ⟨.bl _, H, I, rfl, ?_⟩
  · have hz2 : z ∈ its := by simpa using hz
    obtain ⟨i, hi⟩ := List.mem_iff_getElem?.mp hz2
    obtain ⟨w, hw, rw_⟩ : ∃ w, (ns.map V.str)[i]? = some w ∧ RelV w z := by
      have li : i < its.length := (List.getElem?_eq_some_iff.mp hi).1
      have l2 : i < (ns.map V.str).length := by rw [rv.length]; exact li
      obtain ⟨z2, hz2, r2⟩ := rv.get (List.getElem?_eq_getElem l2)
      rw [hi] at hz2
      cases hz2
      exact ⟨_, List.getElem?_eq_getElem l2, r2⟩
    rw [List.getElem?_map] at hw
    obtain ⟨n, hn, rfl⟩ := Option.map_eq_some_iff.mp hw
    obtain ⟨t, rfl⟩ := rw_
    exact eq_any I (by show X.A.units + 1 + 64 < cLine; omega) hv rx c (ok n (List.mem_iff_getElem?.mpr ⟨i, hn⟩))
  · rw [show (its.toArray.any fun u => match u with
      | .str n _ => PyData.eqv (.str n) d
      | _ => false) = its.any fun u => match u with
      | .str n _ => PyData.eqv (.str n) d
      | _ => false by simp, any_strsD rv]
    exact q
/-- [..], which lies above the modules -/
def tLstH (t : TA) : TE := fun σ H Q => t σ H fun xs H1 => xs.length ≤ sizeLine ∧ ∀ p, H1 p = none → sysModules < p → Q (.ref p) (upd H1 p (.lst xs))
theorem pe_lstH {es : List Expr} {t : TA} {pos : PySem.Pos} (h : PA X es t) : PE X (.List es pos) (tLstH t) := by
  refine ⟨fun pins s σ H Q I hq => ?_⟩
  refine wpAny_List_spliced (thn (h.run pos pins s σ H _ I hq) fun us s1 ⟨xs, H1, I1, r, z, q⟩ => ⟨by rw [← r.length]; exact z, ?_⟩)
  have nw : H1 s1.heap.objs.size = none := I1.hok.fresh (Nat.le_refl _)
  exact ⟨.ref s1.heap.objs.size, upd H1 s1.heap.objs.size (.lst xs), I1.laid (t' := s1.toks) (fun b u e => Heap.get?_push_of_some _ e) (Nat.le_refl _) ⟨z, us, 0, r, Heap.get?_push_size _ rfl⟩, rfl, q _ nw I1.big⟩
/-- repr of a list whose items hold no list -/
def rRepLs (K : PySem.W.Frag) : List V → Hp → VK → Prop := fun xs H Q => ∃ (D L : Addr) (vs : List V) (ds : List PyData), xs = [.ref L] ∧ H L = some (.lst vs) ∧ sysModules < L ∧ DtA K D H vs ds ∧ Szd (.list ds) 16000 60 ∧ (PyData.hasDictAll ds = true → noLsA ds = true) ∧ Q (.str (PyData.list ds).shown) H
theorem cr_repLs (K : PySem.W.Frag) (hK : X.K = K) (hg : X.A.guards = some []) (hu : X.A.units + 64 < cLine) : CallR X (.builtin "repr") (rRepLs K) := by
  subst hK
  intro pins s σ H xs us Q I r h
  obtain ⟨D, L, vs, ds, e, hL, up, ha, sz, nl, q⟩ := h
  subst e
  obtain ⟨u, hus, ru⟩ := vals1 r
  subst hus
  obtain rfl : u = Value.ref L := ru
  have sl := sz.size (by decide)
  have dp := sz.dp
  obtain ⟨its, rv, ⟨o, n2, ho, hc, _, hd⟩, _⟩ := I.list (.of hL)
  obtain ⟨as, hr, nn⟩ := DtA.readsT I ds ha rv
  refine repr_of_reads' (.list ho hc hd hr) sz.sh (fun z => ?_) hg (by omega) (fun _ _ z => z) (fun _ _ _ k => ⟨.str _, H, I.kept k, ⟨_, rfl⟩, q⟩) sl
  intro y
  rcases List.mem_cons.mp y with y | y
  · rw [← y] at up
    exact Nat.lt_irrefl _ up
  · exact nn (nl z) y
end
end Qj
namespace Qj
open PySem PySem.Spec PyProof.Rows L2
/-! ### k16: odd values; the words between the statements of its law -/
/-- an odd value: f does not hold of it -/
structure Odd (f : PyData → Bool) (d : PyData) : Prop where
  no : f d = false
  sh : shD d = true
  b : Brief d
structure OddN (rows : List PyData) (d : PyData) : Prop where
  no : lookS rows d = none
  p : Plain d
  b : Brief d
  sh : shD d = true
def erT (w : Str) (d : PyData) : Str := (PyData.tuple [.str w, d]).shown
def toldT (t : Int) (fo : Int × Int) (s : Int) (m : Int × Int) : Str := (PyData.tuple [.str "told", frD (plc t fo s m)]).shown
theorem sml_ok {x : Str} (h : sml x = true) : Szd (.str x) 8 0 ∧ PyData.strOk x = true ∧ shD (.str x) = true := by
  unfold sml at h
  rw [Bool.and_eq_true, ← Array.all_toList, List.all_eq_true] at h
  have h1 := of_decide_eq_true h.1
  have h2 : ∀ c ∈ x.cps.toList, c < 200 := fun c hc => of_decide_eq_true (h.2 c hc)
  refine ⟨⟨?_, ?_, ?_, ?_⟩, ?_, ?_⟩
  · simp only [PyData.showable]
  · simp only [PyData.leavesShort, List.all_eq_true, decide_eq_true_eq]
    intro c hc
    have := h2 c hc
    omega
  · simp only [PyData.weight]
    exact h1
  · simp only [PyData.depth]
    omega
  · unfold PyData.strOk
    rw [← Array.all_toList, List.all_eq_true]
    intro c hc
    have := h2 c hc
    exact decide_eq_true (by omega)
  · simp only [shD, decide_eq_true_eq]
    omega
theorem plain_str {x : Str} (h : PyData.strOk x = true) : Plain (.str x) := ⟨by simp only [PyData.hasDict], by
  show (PyData.canLay0 (.str x) && decide ((PyData.str x).depth ≤ 64)) = true
  simp only [PyData.canLay0, PyData.depth, h]
  rfl⟩
theorem brief_str {x : Str} (h : sml x = true) : Brief (.str x) := ⟨(sml_ok h).1.mono (by decide) (by decide), fun z => by
  simp only [PyData.hasDict] at z
  cases z⟩
theorem szd_one {d : PyData} {n m : Nat} (h : Szd d n m) : Szd (.tuple [d]) (n + 1) (m + 1) ∧ Szd (.list [d]) (n + 1) (m + 1) := by
  refine ⟨⟨?_, ?_, ?_, ?_⟩, ⟨?_, ?_, ?_, ?_⟩⟩
  all_goals first
    | (simp only [PyData.showable, PyData.showableAll, h.sh, Bool.and_self]; done)
    | (simp only [PyData.leavesShort, PyData.leavesShortAll, h.lv, Bool.and_self]; done)
    | (simp only [PyData.weight, PyData.weightAll]; have := h.wt; omega)
    | (simp only [PyData.depth, PyData.depthAll]; have := h.dp; omega)
theorem odd_str {rows : List PyData} {x : Str} (n : ∀ d ∈ rows, nmD d ∈ names78) (sc : ∀ d ∈ rows, Sc d) (h : no78 x = true) (s : sml x = true) : OddN rows (.str x) := ⟨lookS_no sc fun d hd => by
  rw [eqv_str]
  exact beq_eq_false_iff_ne.mpr (no78_ne h (n d hd)), plain_str (sml_ok s).2.1, brief_str s, (sml_ok s).2.2⟩
theorem odd_names {rows : List PyData} {nm : Str} (n : ∀ d ∈ rows, nmD d ∈ names78) (sc : ∀ d ∈ rows, Sc d) (m : nm ∈ names78) :
    ∀ d ∈ ([.none, .str "", .str (nm ++ "QQ"), .str (Txt.lower nm), .int 5, .list [.str nm], .tuple [.str nm], .bool true] : List PyData), OddN rows d := by
  have q78 := all78 qq78 m
  have w78 := all78 lo78 m
  simp only [Bool.and_eq_true] at q78 w78
  obtain ⟨⟨⟨⟨a1, a2⟩, b1, b2⟩, c1, c2⟩, d1⟩ := q78
  obtain ⟨sn, on, hn⟩ := sml_ok d1
  intro d hd
  simp only [List.mem_cons, List.not_mem_nil, or_false] at hd
  rcases hd with rfl | rfl | rfl | rfl | rfl | rfl | rfl | rfl
  · exact ⟨lookS_no sc fun d hd => by simp only [PyData.eqv], ⟨rfl, rfl⟩, ⟨(szd_okd okd_non).mono (by decide) (by decide), fun z => by simp only [PyData.hasDict] at z; cases z⟩, rfl⟩
  · exact odd_str n sc (by decide +kernel) (by decide +kernel)
  · exact odd_str n sc a1 a2
  · exact odd_str n sc w78.1 w78.2
  · exact ⟨lookS_no sc fun d hd => by simp only [PyData.eqv], ⟨rfl, rfl⟩, ⟨(szd_okd (okd_int (i := 5) (k := 10) (by decide) (by decide) (by decide))).mono (by decide) (by decide), fun z => by simp only [PyData.hasDict] at z; cases z⟩, rfl⟩
  · refine ⟨lookS_no sc fun d hd => by simp only [PyData.eqv], ⟨by simp only [PyData.hasDict, PyData.hasDictAll, Bool.or_false], ?_⟩, ⟨(szd_one sn).2.mono (by decide) (by decide), fun z => by simp only [PyData.hasDict, PyData.hasDictAll, Bool.or_false] at z; cases z⟩, ?_⟩
    · show (PyData.canLay0 (.list [.str nm]) && decide ((PyData.list [.str nm]).depth ≤ 64)) = true
      simp only [PyData.canLay0, PyData.canLayAll0, PyData.depth, PyData.depthAll, on]
      rfl
    · show (shD (.str nm) && true) = true
      rw [hn]
      rfl
  · refine ⟨lookS_no sc fun d hd => by simp only [PyData.eqv], ⟨by simp only [PyData.hasDict, PyData.hasDictAll, Bool.or_false], ?_⟩, ⟨(szd_one sn).1.mono (by decide) (by decide), fun z => by simp only [PyData.hasDict, PyData.hasDictAll, Bool.or_false] at z; cases z⟩, ?_⟩
    · show (PyData.canLay0 (.tuple [.str nm]) && decide ((PyData.tuple [.str nm]).depth ≤ 64)) = true
      simp only [PyData.canLay0, PyData.canLayAll0, PyData.depth, PyData.depthAll, on]
      rfl
    · show (shD (.str nm) && true) = true
      rw [hn]
      rfl
  · exact ⟨lookS_no sc fun d hd => by simp only [PyData.eqv], ⟨rfl, rfl⟩, ⟨(szd_okd okd_bl).mono (by decide) (by decide), fun z => by simp only [PyData.hasDict] at z; cases z⟩, rfl⟩
def oddB (f : PyData → Bool) (d : PyData) : Bool := !f d && (shD d && (d.showable && (d.leavesShort 1001 && (decide (d.weight ≤ 1000) && (decide (d.depth ≤ 10) && (!d.hasDict || noLs d))))))
theorem odd_of {f : PyData → Bool} {d : PyData} (h : oddB f d = true) : Odd f d := by
  unfold oddB at h
  simp only [Bool.and_eq_true, decide_eq_true_eq] at h
  obtain ⟨a, b, c, e, g, i, j⟩ := h
  refine ⟨not_t a, b, ⟨c, e, g, i⟩, fun z => ?_⟩
  rw [z] at j
  exact j
theorem odd_all {f : PyData → Bool} {ds : List PyData} (h : ds.all (oddB f) = true) : ∀ d ∈ ds, Odd f d := fun d hd => odd_of (List.all_eq_true.mp h d hd)
def noStr (t : Int) : List PyData := [.none, .int (ab t), .int (-1), .str "0", .bool true, frD (0, 1), .int (10 ^ (20 : Int).toNat), .list [], .dict []]
theorem no_str {t : Int} (tr : Trn t) : ∀ d ∈ noStr t, Odd (strOkD t) d := by
  have key : ∀ u : Int, u = 1 ∨ u = 2 ∨ u = 3 ∨ u = -1 ∨ u = -2 ∨ u = -3 → (noStr u).all (oddB (strOkD u)) = true := by
    rintro u (rfl | rfl | rfl | rfl | rfl | rfl) <;> decide +kernel
  have h1 := tr.lo
  have h2 := tr.hi
  have h3 := tr.n
  exact odd_all (key t (by omega))
def noMan : List PyData := [.none, .int 0, frD (1, 1), frD (-1, 3), frD (2, 4), frD (5, 3), .str "1/2", .list [.int 0, .int 1], frD (0, 2), .tuple [.bool true, .int 2], .tuple [.int 0, .int 1, .int 1]]
theorem no_man : ∀ d ∈ noMan, Odd dMant d := odd_all (by decide +kernel)
def noPos : List PyData := [.none, .int 0, .int 1, frD (-1, 2), frD (4, 3), frD (2, 2), .str "0", .list [.int 1, .int 2], frD (1, 0), .tuple [.int 1, .bool true], .dict []]
theorem no_pos : ∀ d ∈ noPos, Odd dPos d := odd_all (by decide +kernel)
theorem placed_scale {ds : List PyData} {dn a b : PyData} (h : lookS ds dn = none) : placedD ds dn a b = .tuple [.str "scale", dn] := by
  unfold placedD
  rw [h]
theorem placed_stretch {ds : List PyData} {dn a b f : PyData} {t : Int} (h : lookS ds dn = some (t, f)) (h1 : strOkD t a = false) : placedD ds dn a b = .tuple [.str "stretch", a] := by
  unfold placedD
  rw [h]
  exact if_pos h1
theorem stretch_ok {t s : Int} (s0 : 0 ≤ s) (s1 : s < ab t) : strOkD t (.int s) = true := by
  show (decide (0 ≤ s) && decide (s < ab t)) = true
  rw [decide_eq_true s0, decide_eq_true s1]
  rfl
theorem placed_mant {ds : List PyData} {dn b f : PyData} {t s : Int} (h : lookS ds dn = some (t, f)) (s0 : 0 ≤ s) (s1 : s < ab t) (h2 : dMant b = false) : placedD ds dn (.int s) b = .tuple [.str "mantissa", b] := by
  unfold placedD
  rw [h]
  dsimp only
  rw [if_neg (by rw [stretch_ok s0 s1]; decide), if_pos h2]
theorem placed_told {ds : List PyData} {dn : PyData} {t s : Int} {fo m : Int × Int} (h : lookS ds dn = some (t, frD fo)) (s0 : 0 ≤ s) (s1 : s < ab t) (mm : Man m) : placedD ds dn (.int s) (frD m) = .tuple [.str "told", frD (plc t fo s m)] := by
  unfold placedD
  rw [h]
  dsimp only
  rw [if_neg (by rw [stretch_ok s0 s1]; decide), if_neg (by rw [mm.d]; decide)]
  rfl
theorem figured_scale {ds : List PyData} {dn a : PyData} (h : lookS ds dn = none) : figuredD ds dn a = .tuple [.str "scale", dn] := by
  unfold figuredD
  rw [h]
theorem figured_pos {ds : List PyData} {dn a f : PyData} {t : Int} (h : lookS ds dn = some (t, f)) (h1 : dPos a = false) : figuredD ds dn a = .tuple [.str "position", a] := by
  unfold figuredD
  rw [h]
  exact if_pos h1
theorem fr_nd (x : Int × Int) : (frD x).hasDict = false := by simp only [frD, PyData.hasDict, PyData.hasDictAll, Bool.or_false]
theorem fr_sh (x : Int × Int) : shD (frD x) = true := rfl
theorem brief_fr {x : Int × Int} {k : Nat} (h : Sm k x) (hk : k ≤ 60) : Brief (frD x) := ⟨(szd_okd (okd_fr (k := 60) (pow_up h.t hk) (pow_up h.b hk) (by decide) (by decide))).mono (by decide) (by decide), fun z => by
  rw [fr_nd] at z
  cases z⟩
theorem brief_int {i : Int} (h : i.natAbs < 2 ^ 60) : Brief (.int i) := ⟨(szd_okd (okd_int (k := 60) h (by decide) (by decide))).mono (by decide) (by decide), fun z => by
  simp only [PyData.hasDict] at z
  cases z⟩
theorem brief_cap {x : Str} (h : Cap x) : Brief (.str x) := ⟨(szd_okd (okd_cap h)).mono (by decide) (by decide), fun z => by
  simp only [PyData.hasDict] at z
  cases z⟩
theorem plain_cap {x : Str} (h : Cap x) : Plain (.str x) := ⟨by simp only [PyData.hasDict], strOk_cap h⟩
theorem sh_cap {x : Str} (h : Cap x) : shD (.str x) = true := by
  simp only [shD, decide_eq_true_eq]
  have := h.hi
  omega
theorem odd_man {d : PyData} (h : dMant d = false) : ManOk d := fun z => by
  rw [h] at z
  cases z
theorem odd_pos {d : PyData} (h : dPos d = false) : PosOk d := fun z => by
  rw [h] at z
  cases z
theorem brief_er {w : String} {d : PyData} (b : Brief d) (hw : w.length ≤ 20 := by decide) : Szd (.tuple [.str w, d]) 16000 60 ∧ ((PyData.tuple [.str w, d]).hasDict = true → noLs (.tuple [.str w, d]) = true) := brief_two hw b
theorem frD_inj {x y : Int × Int} (h : frD x = frD y) : x = y := by
  obtain ⟨a, b⟩ := x
  obtain ⟨c, d⟩ := y
  unfold frD at h
  injection h with h
  injection h with h1 h2
  injection h1 with h1
  injection h2 with h2 _
  injection h2 with h2
  dsimp only at h1 h2
  rw [h1, h2]
end Qj
namespace Qj
open PySem PySem.Spec PyProof.Rows L2
/-! ### what a class of its own has, in one look -/
def plainTypes : List String := ["NoneType", "bool", "int", "str", "list", "tuple", "dict"]
def ownIn (K : PySem.W.Frag) (C : Addr) : Bool :=
  PySem.W.findIn K (.ref C) "__class__" == some (some (.builtin "object.__class__")) &&
  (PySem.W.specialIn K (.builtin "object.__class__") "__get__" == some (some (.builtin "getset_descriptor.__get__")) &&
  (PySem.W.takesIn K (.builtin "object.__class__") == some true &&
  (PySem.W.mroIn K C (.type "object") == some true &&
  (PySem.W.selfFirst K C && (plainTypes.all (fun n => PySem.W.kitOne K (.type n) (.ref C) == some false && PySem.W.notFirst K C (.type n)) &&
  PySem.W.findIn K (.ref C) "__ne__" == some (some (.builtin "object.__ne__")))))))
structure OwnC (K : PySem.W.Frag) (C : Addr) : Prop where
  ca : PySem.W.findIn K (.ref C) "__class__" = some (some (.builtin "object.__class__"))
  gt : PySem.W.specialIn K (.builtin "object.__class__") "__get__" = some (some (.builtin "getset_descriptor.__get__"))
  tk : PySem.W.takesIn K (.builtin "object.__class__") = some true
  mo : PySem.W.mroIn K C (.type "object") = some true
  sf : PySem.W.selfFirst K C = true
  no : ∀ n ∈ plainTypes, PySem.W.kitOne K (.type n) (.ref C) = some false ∧ PySem.W.notFirst K C (.type n) = true
  ne : PySem.W.findIn K (.ref C) "__ne__" = some (some (.builtin "object.__ne__"))
theorem OwnC.of {K : PySem.W.Frag} {C : Addr} (h : ownIn K C = true) : OwnC K C := by
  unfold ownIn at h
  simp only [Bool.and_eq_true, beq_iff_eq] at h
  obtain ⟨h0, h1, h2, h3, h4, h5, h6⟩ := h
  refine ⟨h0, h1, h2, h3, h4, fun n hn => ?_, h6⟩
  have z := List.all_eq_true.mp h5 n hn
  simp only [Bool.and_eq_true, beq_iff_eq] at z
  exact z
theorem Kd.plain (k : Kd) : k.nm ∈ plainTypes := by cases k <;> decide
section
variable {K : PySem.W.Frag} {C D : Addr} {H : Hp}
theorem OwnC.ty (o : OwnC K C) (cl : Cls K C) {a dx : Addr} {fs : List (Str × V)} (h : H a = some (.ins C dx fs)) : TyX K H (.ref a) (.ref C) := .base (.ins h cl o.ca o.gt o.tk o.mo)
theorem OwnC.self (o : OwnC K C) : PySem.W.kitOne K (.ref C) (.ref C) = some true ∧ PySem.W.notFirst K C (.ref C) = true := by
  refine ⟨?_, ?_⟩
  · unfold PySem.W.kitOne
    rw [if_pos (by simp)]
  · unfold PySem.W.notFirst
    simp
/-- data is no instance -/
theorem OwnC.data (o : OwnC K C) {v : V} {d : PyData} (h : Dt K D H v d) : ∃ n, TyX K H v (.type n) ∧ PySem.W.kitOne K (.type n) (.ref C) = some false ∧ PySem.W.notFirst K C (.type n) = true := by
  obtain ⟨k, ty, _⟩ := h.ty
  obtain ⟨a, b⟩ := o.no _ (Kd.plain k)
  exact ⟨_, ty, a, b⟩
end
/-- a method of a built-in type, the written part given by hand -/
theorem pe_bmK {X : Cx} (K : PySem.W.Frag) (hK : X.K = K) {o e : Expr} {es : List Expr} {to : TE} {t : TA} {name : Str} {apos cpos : PySem.Pos} {T id : String} {r : V → List V → Hp → VK → Prop} (pa : PlainAttrs T) (slot : Slot T name id) (ty : typeOf (.builtin id) = pure (.type "method_descriptor")) (hm : MtM X id r) (ho : PE X o to) (ha : PA X (e :: es) t)
    (h1 : attributeBase o name X.env (eval o X.env) = eval o X.env := by rfl)
    (h2 : ((backTo cpos (starEach (e :: es) X.env)).all (fun z => !z.1) && (backToKw cpos (keywordEach [] X.env)).all (fun z => z.1.isSome) && decide ((e :: es).length + ([] : List Keyword).length + (if ([] : List Keyword).isEmpty then 0 else 1) < 30)) = true := by rfl)
    (h3 : (apos.endLine == cpos.line) = true := by rfl) (h4 : starEach (e :: es) X.env = (false, eval e X.env) :: starEach es X.env := by rfl) (h5 : (backTo cpos (starEach es X.env)).any (·.1) = false := by rfl) :
    PE X (.Call (.Attribute o name apos) (e :: es) [] cpos) (tBM K T r to t) := hK ▸ pe_bm pa slot ty hm ho ha h1 h2 h3 h4 h5
/-! ### o.m(..), which may raise -/
def tMethS (C : Addr) (m : Str) (sp : Sp) (E : L2.St → XK) (ta : TE) (t : TA) : TE := fun σ H Q => ta σ H fun x H1 => ∃ a dx fs, x = .ref a ∧ H1 a = some (.ins C dx fs) ∧ fs.lookup m = none ∧ t σ H1 fun vs H2 => sp (.ref a :: vs) H2 Q (E σ)
theorem pe_mS {X : Cx} {CX : CXT} {k : Nat} {f C : Addr} {fd : FuncData} {ps : List Str} {sp : Sp} {E : L2.St → XK} {m : Str} {apos pos : PySem.Pos} {e o : Expr} {es : List Expr} {ta : TE} {t : TA} {pl : Sem Bool} (he : PE X o ta) (c : Cls X.K C) (hm : Meth X.K C m f) (F : FnOk X.prog X.w X.K X.mg X.base CX k f fd ps sp) (hr : Room k X.A) (hb : Binds X.K fd ps []) (hx : ∀ σ, PassesAt CX X σ (E σ)) (ha : PA X (e :: es) t)
    (h1 : starEach (e :: es) X.env = (false, eval e X.env) :: starEach es X.env := by rfl) (h2 : (backTo pos (starEach es X.env)).any (·.1) = false := by rfl)
    (h3 : eval (.Call (.Attribute o m apos) (e :: es) [] pos) X.env = (do
      let u ← eval o X.env
      standAt apos.atName
      let (g, vs) ← holding [u] (getMethod u m pl)
      callWith pos g vs (backTo pos (starEach (e :: es) X.env)) (backToKw pos (keywordEach [] X.env))) := by rfl) :
    PE X (.Call (.Attribute o m apos) (e :: es) [] pos) (tMethS C m sp E ta t) := by
  refine ⟨fun pins s σ H Q I h => PySem.W.methodCall_KW (pl := pl) (thn (he.run pins s σ H _ I h) fun u s1 z => ?_) h3⟩
  obtain ⟨x, H1, I1, rx, a, dx, fs, ex, ea, l, q⟩ := z
  subst ex
  cases rx
  refine getmeth_ok I1 ea c hm l (PySem.W.callWith_K (first := [.ref a]) (h₀ := X.base) I1.ok.mod.kin hm.kp (thn (ha.run pos pins s1 σ H1 _ I1 q) fun us s2 ⟨vs, H2, I2, r, q2⟩ => ⟨I2.kIn, ?_⟩) h1 h2)
  exact run_fnS (us := .ref a :: us) (vs := .ref a :: vs) F hr hb (hx σ) I2 (.cons rfl r) q2
/-! ### str(v) of data -/
def rStrT (K : PySem.W.Frag) : List V → Hp → VK → Prop := fun xs H Q => ∃ (D : Addr) (v : V) (ds : List PyData), xs = [v] ∧ Dt K D H v (.tuple ds) ∧ Szd (.tuple ds) 16000 60 ∧ (PyData.tuple ds).hasDict = false ∧ Q (.str (PyData.tuple ds).shown) H
theorem cr_strT {X : Cx} (K : PySem.W.Frag) (hK : X.K = K) (hg : X.A.guards = some []) (hu : X.A.units + 64 < cLine) : CallR X (.type "str") (rStrT K) := by
  subst hK
  intro pins s σ H xs us Q I r h
  obtain ⟨D, v, ds, e, hd, sz, nl, q⟩ := h
  subst e
  obtain ⟨u, hus, ru⟩ := vals1 r
  subst hus
  have sl := sz.size (by decide)
  obtain ⟨as, rd, ns⟩ := Dt.readsT I _ hd ru
  have dp := sz.dp
  cases rd with
  | tuple a b c e => exact PySem.str_of_reads (.tuple a b c e) sz.sh (fun z => by rw [nl] at z; cases z) hg (by omega) (fun _ _ z => z) (fun _ _ _ k => ⟨.str _, H, I.kept k, ⟨_, rfl⟩, q⟩) sl
/-! ### k13: what a rule is asked -/
def hasD (rows : List PyData) (d : PyData) : Bool := (rows.map nmD).any fun n => PyData.eqv (.str n) d
theorem look_has {rows : List PyData} (sc : ∀ x ∈ rows, Sc x) {d : PyData} : hasD rows d = (lookS rows d).isSome := by
  induction rows with
  | nil => rfl
  | cons a r ih =>
    obtain ⟨nm, t, fo, rfl, _⟩ := sc _ (List.mem_cons_self ..)
    have ih := ih fun x hx => sc x (List.mem_cons_of_mem _ hx)
    unfold hasD at ih ⊢
    rw [lookS_cons, List.map_cons, List.any_cons, show nmD (.tuple [.str nm, .int t, frD fo]) = nm from rfl]
    by_cases e : PyData.eqv (.str nm) d = true
    · rw [if_pos e, e]
      rfl
    · rw [if_neg e, ih, Bool.eq_false_iff.mpr e, Bool.false_or]
theorem look_frac {rows : List PyData} {d : PyData} {t : Int} {f : PyData} (sc : ∀ x ∈ rows, Sc x) (h : lookS rows d = some (t, f)) : ∃ fo, f = frD fo := by
  induction rows with
  | nil => cases h
  | cons a r ih =>
    obtain ⟨nm, t2, fo, rfl, _⟩ := sc _ (List.mem_cons_self ..)
    rw [lookS_cons] at h
    by_cases e : PyData.eqv (.str nm) d = true
    · rw [if_pos e] at h
      cases h
      exact ⟨fo, rfl⟩
    · rw [if_neg e] at h
      exact ih (fun x hx => sc x (List.mem_cons_of_mem _ hx)) h
def spScaleC (K : PySem.W.Frag) (C NS : Addr) : Sp := fun vs H Q E => ∃ (D r : Addr) (bd sd : List PyData) (v : V) (d : PyData), vs = [.ref r, v] ∧ RuleAt K C D H r bd sd ∧ (∀ x ∈ bd ++ sd, Sc x) ∧ (bd ++ sd).length ≤ 12 ∧ Dt K D H v d ∧ Cmpd d ∧
  (∀ t f, lookS (bd ++ sd) d = some (t, f) → ∀ q v' H', Evl.Ex H H' → H' q = some (.tup [.int t, v']) → Dt K D H' v' f → Q (.ref q) H') ∧ (lookS (bd ++ sd) d = none → ErrG K H NS "name" v E)
def spHasD (K : PySem.W.Frag) (C : Addr) : Sp := fun vs H Q _ => ∃ (D r : Addr) (bd sd : List PyData) (v : V) (d : PyData), vs = [.ref r, v] ∧ RuleAt K C D H r bd sd ∧ (∀ x ∈ bd ++ sd, Sc x) ∧ (bd ++ sd).length ≤ 12 ∧ Dt K D H v d ∧ Cmpd d ∧ ∀ H', Evl.Ex H H' → Q (.bl (hasD (bd ++ sd) d)) H'
def spSlidesE (K : PySem.W.Frag) (C NS : Addr) : Sp := fun vs H Q E => ∃ (D r : Addr) (bd sd : List PyData) (v : V) (d : PyData), vs = [.ref r, v] ∧ RuleAt K C D H r bd sd ∧ (∀ x ∈ bd ++ sd, Sc x) ∧ (bd ++ sd).length ≤ 12 ∧ Dt K D H v d ∧ Cmpd d ∧
  (hasD (bd ++ sd) d = true → ∀ H', Evl.Ex H H' → Q (.bl (hasD sd d)) H') ∧ (hasD (bd ++ sd) d = false → ErrG K H NS "name" v E)
def askD (bd sd : List PyData) (d : PyData) : List PyData := match lookS (bd ++ sd) d with
  | none => [d, d]
  | some (t, f) => [.tuple [.int t, f], .bool (hasD sd d)]
def spAsked (K : PySem.W.Frag) (C : Addr) : Sp := fun vs H Q _ => ∃ (D r : Addr) (bd sd : List PyData) (v : V) (d : PyData), vs = [.ref r, v] ∧ RuleAt K C D H r bd sd ∧ (∀ x ∈ bd ++ sd, Sc x) ∧ (bd ++ sd).length ≤ 12 ∧ Dt K D H v d ∧ Cmpd d ∧
  ∀ L xs H', Evl.Ex H H' → sysModules < L → H' L = some (.lst xs) → DtA K D H' xs (askD bd sd d) → Q (.ref L) H'
/-- what == says of a rule and another value -/
def spEqR (K : PySem.W.Frag) (C : Addr) : Sp := fun vs H Q _ => ∃ (D r : Addr) (bd sd : List PyData) (y : V), vs = [.ref r, y] ∧ RuleAt K C D H r bd sd ∧ (∀ x ∈ bd ++ sd, Sc x) ∧ (bd ++ sd).length ≤ 12 ∧
  ((∃ (r2 : Addr) (bd2 sd2 : List PyData), y = .ref r2 ∧ RuleAt K C D H r2 bd2 sd2 ∧ (∀ x ∈ bd2 ++ sd2, Sc x) ∧ (bd2 ++ sd2).length ≤ 12 ∧ Q (.bl (PyData.eqv (.tuple bd) (.tuple bd2) && PyData.eqv (.tuple sd) (.tuple sd2))) H) ∨
   (∃ d, Dt K D H y d ∧ Q (.bl false) H))
theorem shaped_rows {ds : List PyData} (h : ∀ d ∈ ds, Sc d) : SeqAt.shaped (.tuple ds) = true ∧ (PyData.tuple ds).hasDict = false := by
  have a : PyData.canLayAll0 ds = true ∧ PyData.depthAll ds ≤ 2 ∧ PyData.hasDictAll ds = false := by
    induction ds with
    | nil => exact ⟨rfl, by decide, rfl⟩
    | cons d r ih =>
      obtain ⟨i1, i2, i3⟩ := ih fun x hx => h x (List.mem_cons_of_mem _ hx)
      obtain ⟨nm, t, fo, rfl, cp, _⟩ := h d (List.mem_cons_self ..)
      have ok : PyData.strOk nm = true := by
        have z := SeqAt.canLay_of_shaped (strOk_cap cp)
        simpa only [PyData.canLay0] using z
      refine ⟨?_, ?_, ?_⟩
      · simp only [PyData.canLayAll0, PyData.canLay0, frD, ok, i1, Bool.and_self]
      · have z : (PyData.tuple [.str nm, .int t, frD fo]).depth = 2 := rfl
        simp only [PyData.depthAll, z]
        omega
      · simp only [PyData.hasDictAll, PyData.hasDict, frD, i3, Bool.or_self]
  refine ⟨?_, ?_⟩
  · show (PyData.canLay0 (.tuple ds) && decide ((PyData.tuple ds).depth ≤ 64)) = true
    have e1 : PyData.canLay0 (.tuple ds) = true := by
      simp only [PyData.canLay0]
      exact a.1
    have e2 : (PyData.tuple ds).depth ≤ 64 := by
      simp only [PyData.depth]
      have := a.2.1
      omega
    rw [e1, decide_eq_true e2]
    rfl
  · simp only [PyData.hasDict, a.2.2]
theorem eqvA_symm : ∀ {ds es : List PyData}, (∀ d ∈ ds, Sc d) → (∀ d ∈ es, Sc d) → PyData.eqvAll ds es = PyData.eqvAll es ds
  | [], [], _, _ => rfl
  | [], _ :: _, _, _ => rfl
  | _ :: _, [], _, _ => rfl
  | d :: ds, e :: es, h1, h2 => by
    have ih := eqvA_symm (fun x hx => h1 x (List.mem_cons_of_mem d hx)) (fun x hx => h2 x (List.mem_cons_of_mem e hx))
    obtain ⟨nm, t, fo, rfl, _⟩ := h1 d (List.mem_cons_self ..)
    obtain ⟨nm2, t2, fo2, rfl, _⟩ := h2 e (List.mem_cons_self ..)
    rw [PyData.eqvAll, PyData.eqvAll, ih]
    congr 1
    simp only [PyData.eqv, PyData.eqvAll, frD, Bool.and_true]
    rw [Bool.eq_iff_iff]
    simp only [Bool.and_eq_true, beq_iff_eq]
    constructor <;> (rintro ⟨a, b, c, d⟩; exact ⟨a.symm, b.symm, c.symm, d.symm⟩)
theorem eqv_symm {ds es : List PyData} (h1 : ∀ d ∈ ds, Sc d) (h2 : ∀ d ∈ es, Sc d) : PyData.eqv (.tuple ds) (.tuple es) = PyData.eqv (.tuple es) (.tuple ds) := by
  simp only [PyData.eqv]
  exact eqvA_symm h1 h2
theorem eqvA_refl : ∀ {ds : List PyData}, (∀ d ∈ ds, Sc d) → PyData.eqvAll ds ds = true
  | [], _ => rfl
  | d :: ds, h => by
    have ih := eqvA_refl fun x hx => h x (List.mem_cons_of_mem d hx)
    obtain ⟨nm, t, fo, rfl, _⟩ := h d (List.mem_cons_self ..)
    rw [PyData.eqvAll, ih]
    simp [PyData.eqv, PyData.eqvAll, frD]
theorem eqv_refl {ds : List PyData} (h : ∀ d ∈ ds, Sc d) : PyData.eqv (.tuple ds) (.tuple ds) = true := by
  simp only [PyData.eqv]
  exact eqvA_refl h
/-! ### slices of data -/
theorem slTo_dt {K : PySem.W.Frag} {D : Addr} {H : Hp} {v : V} {ds : List PyData} {Q : VK} {k : Nat} (h : Dt K D H v (.tuple ds)) (l : k ≤ ds.length) (q : ∀ (p : Addr) (H' : Hp), Dt K D H' (.ref p) (.tuple (ds.take k)) → Evl.Ex H H' → Q (.ref p) H') : rSlA K v none (some (k : Int)) H Q := by
  obtain ⟨a, xs, rfl, t, g⟩ := h.tupA
  have lx := g.len
  refine ⟨a, xs, rfl, t, fun z => ?_, fun z p np => ?_⟩
  · have e : k = ds.length := by
      have z2 := z.2
      rw [HT.sIx_nat] at z2
      omega
    refine q a H ?_ (.refl _)
    rw [e, List.take_length]
    exact h
  · rw [cut_to (by omega)]
    exact q p _ (.tup (SqT.of upd_same) ((g.ex (ex_new np)).take k)) (ex_new np)
theorem slFrom_dt {K : PySem.W.Frag} {D : Addr} {H : Hp} {v : V} {ds : List PyData} {Q : VK} {k : Nat} (h : Dt K D H v (.tuple ds)) (l : k ≤ ds.length) (q : ∀ (p : Addr) (H' : Hp), Dt K D H' (.ref p) (.tuple (ds.drop k)) → Evl.Ex H H' → Q (.ref p) H') : rSlA K v (some (k : Int)) none H Q := by
  obtain ⟨a, xs, rfl, t, g⟩ := h.tupA
  have lx := g.len
  refine ⟨a, xs, rfl, t, fun z => ?_, fun z p np => ?_⟩
  · have e : k = 0 := by
      have z2 := z.1
      rw [HT.sIx_nat] at z2
      omega
    refine q a H ?_ (.refl _)
    rw [e, List.drop_zero]
    exact h
  · rw [cut_from (by omega)]
    exact q p _ (.tup (SqT.of upd_same) ((g.ex (ex_new np)).drop k)) (ex_new np)
theorem DtA.rev {K : PySem.W.Frag} {D : Addr} {H : Hp} : ∀ {vs : List V} {ds : List PyData}, DtA K D H vs ds → DtA K D H vs.reverse ds.reverse
  | _, _, .nil => .nil
  | _, _, .cons h t => by
    rw [List.reverse_cons, List.reverse_cons]
    exact (DtA.rev t).app (.cons h .nil)
/-- rows for another rule -/
structure Rw (bd sd : List PyData) : Prop where
  sc : ∀ d ∈ bd ++ sd, Sc d
  nd : ((bd ++ sd).map nmD).Nodup
  few : (bd ++ sd).length ≤ 4
def spOtherR (K : PySem.W.Frag) : Sp := fun vs H Q _ => ∃ (D pb ps : Addr) (bd sd : List PyData), vs = [.ref D, .ref pb, .ref ps] ∧ DeckAt H D ∧ Dt K D H (.ref pb) (.tuple bd) ∧ Dt K D H (.ref ps) (.tuple sd) ∧ Rows bd sd ∧
  ∀ (p qb qs : Addr) (b2 s2 : List PyData) (H' : Hp), H' p = some (.tup [.ref qb, .ref qs]) → Dt K D H' (.ref qb) (.tuple b2) → Dt K D H' (.ref qs) (.tuple s2) → Rw b2 s2 → Bu D H H' → DeckAt H' D → Q (.ref p) H'
end Qj
namespace Qj
open PySem PySem.Spec PySem.Calls PyProof.Rows L2
/-- the scope of a comprehension that is stored, for one within it: what is free there is a cell -/
def lcSc : Stmt → Scope
  | .Assign _ (.ListComp _ _ sc _) _ => { sc with names := sc.names.map fun (n, k) => if k == NameKind.free then (n, NameKind.cell) else (n, k) }
  | st => defScope st
theorem pi_tupK {X : Cx} (K : PySem.W.Frag) (hK : X.K = K) {tg l : Expr} {tl : TE} (hl : PE X l tl) : PI X tg l (iTup K tl) := hK ▸ pi_tup hl
theorem pi_listK {X : Cx} (K : PySem.W.Frag) (hK : X.K = K) {tg l : Expr} {tl : TE} (hl : PE X l tl) : PI X tg l (iList K tl) := hK ▸ pi_list hl
theorem op_notInSeqK {X : Cx} (K : PySem.W.Frag) (hK : X.K = K) : OpR X (compareOp .NotIn) (rIn K true) := hK ▸ op_notIn_seq
theorem op_inSeqK {X : Cx} (K : PySem.W.Frag) (hK : X.K = K) : OpR X (compareOp .In) (rIn K false) := hK ▸ op_in_seq
/-! ### terms of any size -/
structure TsK (k : Nat) (ts : List Tm) (f : Int × Int) : Prop where
  n : ∀ t ∈ ts, Nm t.1
  s : ∀ t ∈ ts, Sm k t.2
  g : ∀ t ∈ ts, Nat.gcd t.2.1.natAbs t.2.2.natAbs = 1
  u : (ts.map (·.1)).Nodup
  l : ts.length ≤ 6
  fs : Sm k f
  fg : Nat.gcd f.1.natAbs f.2.natAbs = 1
theorem TsK.mono {j k : Nat} {ts : List Tm} {f : Int × Int} (h : TsK j ts f) (hk : j ≤ k) : TsK k ts f := ⟨h.n, fun t ht => (h.s t ht).mono hk, h.g, h.u, h.l, h.fs.mono hk, h.fg⟩
def keptT (ts : List Tm) : List Tm := ts.filter fun t => decide (t.2.1 ≠ 0)
def RiseS (us : List Tm) : Prop := (us.map (·.1)).Pairwise leS
theorem drw_tsK {ns : List Str} {ds : List PyData} {c : Int × Int} (h : Drw ns ds c) (l : ns.length ≤ 6) (hn : ∀ x ∈ ns, Nm x) : ∃ ts : List Tm, ds = ts.map tmD ∧ TsK 62 ts c ∧ ∀ t ∈ ts, t.1 ∈ ns := by
  obtain ⟨ts, rfl, ht⟩ := drw_ts h
  have nd := h.nd
  rw [List.map_map] at nd
  have lt := h.l
  rw [List.length_map] at lt
  exact ⟨ts, rfl, ⟨fun t m => hn _ (ht t m).1, fun t m => (ht t m).2.1, fun t m => (ht t m).2.2, nd, by omega, h.cs, h.cg⟩, fun t m => (ht t m).1⟩
theorem TsK.terms {k : Nat} {ts : List Tm} {f : Int × Int} (h : TsK k ts f) : dTerms (.tuple (ts.map tmD)) = true ∧ dFrac (frD f) = true ∧ TOk (.tuple (ts.map tmD)) := by
  have fr : ∀ {x : Int × Int}, Sm k x → Nat.gcd x.1.natAbs x.2.natAbs = 1 → dFrac (frD x) = true := fun {x} h g => by
    show (decide (1 ≤ x.2) && decide (((Nat.gcd x.1.natAbs x.2.natAbs : Nat) : Int) = 1)) = true
    have := h.p
    rw [decide_eq_true (by omega), decide_eq_true (by rw [g]; rfl)]
    rfl
  refine ⟨?_, fr h.fs h.fg, ?_, fun es e => ?_⟩
  · show ((ts.map tmD).all dTerm && decide _) = true
    rw [Bool.and_eq_true]
    refine ⟨List.all_eq_true.mpr fun d hd => ?_, decide_eq_true ?_⟩
    · obtain ⟨t, ht, rfl⟩ := List.mem_map.mp hd
      show (dWord lowZ (.str t.1) && dFrac (frD t.2)) = true
      rw [low_name (h.n t ht), fr (h.s t ht) (h.g t ht)]
      rfl
    · rw [List.map_map]
      exact h.u
  · show shA _ = true
    refine shA_all.mpr fun d hd => ?_
    obtain ⟨t, ht, rfl⟩ := List.mem_map.mp hd
    show shA _ = true
    refine shA_all.mpr fun e he => ?_
    rcases List.mem_cons.mp he with rfl | he
    · exact sh_name (h.n t ht)
    · rw [List.mem_singleton.mp he]
      rfl
  · cases e
    have := h.l
    rw [List.length_map]
    omega
theorem kept_eq (ts : List Tm) : kept (ts.map tmD) = (keptT ts).map tmD := by
  unfold kept keptT
  rw [List.filter_map]
  rfl
theorem rise_oneT {us vs ws : List Tm} (nd : (ws.map (·.1)).Nodup) (h1 : us.Perm (keptT ws)) (h2 : vs.Perm (keptT ws)) (r1 : RiseS us) (r2 : RiseS vs) : us = vs := by
  have key : us.map tmD = vs.map tmD := by
    refine rise_one (ds := (keptT ws).map tmD) ?_ (h1.map tmD) (h2.map tmD) ?_ ?_
    · rw [List.map_map]
      exact List.Nodup.sublist (List.Sublist.map _ List.filter_sublist) nd
    · show ((us.map tmD).map nmD).Pairwise leS
      rw [List.map_map]
      exact r1
    · show ((vs.map tmD).map nmD).Pairwise leS
      rw [List.map_map]
      exact r2
  have z := congrArg (List.map unD) key
  rw [List.map_map, List.map_map, show (unD ∘ tmD) = id from funext un_tm, List.map_id, List.map_id] at z
  exact z
theorem TsK.keep {k : Nat} {ts us : List Tm} {f : Int × Int} (h : TsK k ts f) (p : us.Perm (keptT ts)) : TsK k us f := by
  have sub : ∀ t ∈ us, t ∈ ts := fun t ht => (List.mem_filter.mp (p.mem_iff.mp ht)).1
  refine ⟨fun t m => h.n t (sub t m), fun t m => h.s t (sub t m), fun t m => h.g t (sub t m), ?_, ?_, h.fs, h.fg⟩
  · exact ((p.map (·.1)).nodup_iff).mpr (List.Nodup.sublist (List.Sublist.map _ List.filter_sublist) h.u)
  · have a := p.length_eq
    have b : (keptT ts).length ≤ ts.length := List.length_filter_le ..
    have := h.l
    omega
/-- a form at r with these terms and this constant, terms in order and none of them zero -/
def FormT (K : PySem.W.Frag) (C D : Addr) (H : Hp) (r : Addr) (us : List Tm) (f : Int × Int) : Prop := FormAt K C D H r (us.map tmD) (frD f)
theorem FormT.ex {K : PySem.W.Frag} {C D r : Addr} {H H' : Hp} {us : List Tm} {f : Int × Int} (h : FormT K C D H r us f) (e : Evl.Ex H H') : FormT K C D H' r us f := FormAt.ex h e
theorem FormT.bu {K : PySem.W.Frag} {C D r : Addr} {H H' : Hp} {us : List Tm} {f : Int × Int} (h : FormT K C D H r us f) (k : DeckAt H D) (e : Bu D H H') : FormT K C D H' r us f := FormAt.bu h k e
theorem riseS_of {us : List Tm} (h : RiseT (us.map tmD)) : RiseS us := by
  have z : ((us.map tmD).map nmD).Pairwise leS := h
  rw [List.map_map] at z
  exact z
theorem szd_list {ds : List PyData} {n m : Nat} (h : Szd (.tuple ds) n m) : Szd (.list ds) n m := by
  have a := h.sh
  have b := h.lv
  have c := h.wt
  have d := h.dp
  simp only [PyData.showable] at a
  simp only [PyData.leavesShort] at b
  simp only [PyData.weight] at c
  simp only [PyData.depth] at d
  exact ⟨by simp only [PyData.showable, a], by simp only [PyData.leavesShort, b], by simp only [PyData.weight]; exact c, by simp only [PyData.depth]; exact d⟩
theorem szd_frs {fs : List (Int × Int)} (h : ∀ f ∈ fs, Sm 900 f) (l : fs.length ≤ 6) : Szd (.list (fs.map frD)) 16000 60 := szd_list ((szd_tupA (n := 2000) (m := 20) (fun d hd => by
  obtain ⟨f, hf, rfl⟩ := List.mem_map.mp hd
  exact (szd_okd (okd_frS (h f hf))).mono (by decide) (by decide))).mono (by rw [List.length_map]; omega) (by decide))
theorem nodict_frs (fs : List (Int × Int)) : (PyData.list (fs.map frD)).hasDict = false := by
  simp only [PyData.hasDict]
  induction fs with
  | nil => rfl
  | cons f r ih =>
    simp only [List.map_cons, PyData.hasDictAll, ih, Bool.or_false]
    rfl
theorem noL_ts (ts : List Tm) : noL (.tuple (ts.map tmD)) = true := by
  show noLA _ = true
  refine noLA_of fun d hd => ?_
  obtain ⟨t, _, rfl⟩ := List.mem_map.mp hd
  rfl
/-- all stays but the list at L -/
def Bt (L : Addr) (H H' : Hp) : Prop := ∀ b u, b ≠ L → H b = some u → H' b = some u
theorem Bt.sqT {K : PySem.W.Frag} {L : Addr} {H H' : Hp} {ys : List V} (e : Bt L H H') (hL : H L = some (.lst ys)) {a : Addr} {xs : List V} (h : SqT K H a xs) : SqT K H' a xs := by
  rcases h with (h | ⟨q, h⟩) | h
  · exact .inl (.inl (e _ _ (fun z => by subst z; rw [hL] at h; cases h) h))
  · exact .inl (.inr ⟨q, e _ _ (fun z => by subst z; rw [hL] at h; cases h) h⟩)
  · exact .inr h
theorem Bt.tup {L : Addr} {H H' : Hp} {ys : List V} (e : Bt L H H') (hL : H L = some (.lst ys)) {a : Addr} {xs : List V} (h : H a = some (.tup xs)) : H' a = some (.tup xs) := e _ _ (fun z => by subst z; rw [hL] at h; cases h) h
theorem Bt.dt {K : PySem.W.Frag} {D L : Addr} {H H' : Hp} {ys : List V} (e : Bt L H H') (hL : H L = some (.lst ys)) {d : PyData} (n : noL d = true) {v : V} (h : Dt K D H v d) : Dt K D H' v d := Dt.only (fun _ _ h => e.sqT hL h) d n h
theorem Bt.form {K : PySem.W.Frag} {C D r L : Addr} {H H' : Hp} {ys : List V} {us : List Tm} {f : Int × Int} (e : Bt L H H') (hL : H L = some (.lst ys)) (h : FormT K C D H r us f) : FormT K C D H' r us f := by
  obtain ⟨dx, pt, cv, a, b, c⟩ := h.ob
  exact ⟨dx, pt, cv, e _ _ (fun z => by subst z; rw [hL] at a; cases a) a, e.dt hL (noL_ts us) b, e.dt hL rfl c⟩
theorem Bt.deck {L D : Addr} {H H' : Hp} (e : Bt L H H') (n : L ≠ D) (k : DeckAt H D) : DeckAt H' D := by
  obtain ⟨g, m, c, h, b⟩ := k
  exact ⟨g, m, c, e _ _ (Ne.symm n) h, b⟩
theorem Bt.ins {L : Addr} {H H' : Hp} {ys : List V} (e : Bt L H H') (hL : H L = some (.lst ys)) {a C d : Addr} {fs : List (Str × V)} (h : H a = some (.ins C d fs)) : H' a = some (.ins C d fs) := e _ _ (fun z => by subst z; rw [hL] at h; cases h) h
def spToldK (K : PySem.W.Frag) : Sp := fun vs H Q _ => ∃ (D a : Addr) (k : Nat) (ts : List Tm) (f : Int × Int), vs = [.ref a] ∧ Dt K D H (.ref a) (.tuple (ts.map tmD)) ∧ TsK k ts f ∧ ∀ (us : List Tm) (p : Addr) (H' : Hp), us.Perm (keptT ts) → RiseS us → Evl.Ex H H' → Dt K D H' (.ref p) (.tuple (us.map tmD)) → Q (.ref p) H'
theorem nodict_ts (ts : List Tm) : (PyData.tuple (ts.map tmD)).hasDict = false := by
  simp only [PyData.hasDict]
  induction ts with
  | nil => rfl
  | cons t r ih =>
    simp only [List.map_cons, PyData.hasDictAll, ih, Bool.or_false]
    rfl
theorem shaped_ts {ts : List Tm} (h : ∀ t ∈ ts, Nm t.1) : SeqAt.shaped (.tuple (ts.map tmD)) = true := by
  have a : PyData.canLayAll0 (ts.map tmD) = true ∧ PyData.depthAll (ts.map tmD) ≤ 2 := by
    induction ts with
    | nil => exact ⟨rfl, by decide⟩
    | cons t r ih =>
      obtain ⟨i1, i2⟩ := ih fun x hx => h x (List.mem_cons_of_mem _ hx)
      have ok := strOk_low (h t (List.mem_cons_self ..))
      have z : (tmD t).depth = 2 := rfl
      refine ⟨?_, ?_⟩
      · simp only [List.map_cons, PyData.canLayAll0, i1, Bool.and_true]
        show PyData.canLay0 (.tuple [.str t.1, frD t.2]) = true
        simp only [PyData.canLay0, PyData.canLayAll0, frD, ok, Bool.and_self]
      · simp only [List.map_cons, PyData.depthAll, z]
        omega
  have e1 : PyData.canLay0 (.tuple (ts.map tmD)) = true := by
    simp only [PyData.canLay0]
    exact a.1
  have e2 : (PyData.tuple (ts.map tmD)).depth ≤ 64 := by
    simp only [PyData.depth]
    have := a.2
    omega
  show (PyData.canLay0 _ && decide _) = true
  rw [e1, decide_eq_true e2]
  rfl
theorem eqvA_ts : ∀ {ts us : List Tm}, PyData.eqvAll (ts.map tmD) (us.map tmD) = decide (ts = us)
  | [], [] => rfl
  | [], _ :: _ => rfl
  | _ :: _, [] => rfl
  | (x, a, b) :: ts, (y, c, d) :: us => by
    rw [List.map_cons, List.map_cons, PyData.eqvAll, eqvA_ts]
    have z : PyData.eqv (tmD (x, a, b)) (tmD (y, c, d)) = decide (((x, a, b) : Tm) = (y, c, d)) := by
      simp only [tmD, frD, PyData.eqv, PyData.eqvAll, Bool.and_true]
      rw [Bool.eq_iff_iff]
      simp
    rw [z, Bool.eq_iff_iff]
    simp
theorem eqv_ts {ts us : List Tm} : PyData.eqv (.tuple (ts.map tmD)) (.tuple (us.map tmD)) = decide (ts = us) := by
  rw [← eqvA_ts]
  simp only [PyData.eqv]
theorem eqv_frE (x y : Int × Int) : PyData.eqv (frD x) (frD y) = decide (x = y) := by
  rw [eqv_fr, Bool.eq_iff_iff]
  simp only [decide_eq_true_eq]
  constructor
  · rintro ⟨a, b⟩
    exact Prod.ext a b
  · rintro rfl
    exact ⟨rfl, rfl⟩
theorem op_cmpOwnK {X : Cx} {CX : CXT} {C f : Addr} {k : Nat} {fd : FuncData} {ps : List Str} {sp : Sp} {E : XK} (K : PySem.W.Frag) (hK : X.K = K) {op : CmpOp} (ho : op ≠ .In ∧ op ≠ .NotIn ∧ op ≠ .Is ∧ op ≠ .IsNot) (hu : X.A.units < cLine) (hm : Meth K C (PySem.cmpInfo op).2.1 f) (F : FnOk X.prog X.w K X.mg X.base CX k f fd ps sp) (hr : Room k X.A) (hb : Binds K fd ps []) (hx : Passes CX X E) : OpR X (compareOp op) (rCmpOwn K C sp E) := by
  subst hK
  exact op_cmpOwn ho hu hm F hr hb hx
/-! ### str(a), a of a class that says its own text -/
def rStrOwn (C : Addr) (sp : Sp) (E : XK) : List V → Hp → VK → Prop := fun xs H Q => ∃ (a dx : Addr) (fs : List (Str × V)), xs = [.ref a] ∧ H a = some (.ins C dx fs) ∧ sp [.ref a] H (fun r H' => ∃ x, r = .str x ∧ Q (.str x) H') E
section
variable {X : Cx} {CX : CXT} {C f : Addr} {k : Nat} {fd : FuncData} {ps : List Str} {sp : Sp} {E : XK}
theorem cr_strOwn (hm : Meth X.K C "__str__" f) (F : FnOk X.prog X.w X.K X.mg X.base CX k f fd ps sp) (hr : Room (k + 2) X.A) (hb : Binds X.K fd ps []) (hx : Passes CX X E) : CallR X (.type "str") (rStrOwn C sp E) := by
  intro pins s σ H xs us Q I r h
  obtain ⟨a, dx, fs, e, ha, q⟩ := h
  subst e
  obtain ⟨u, hus, ru⟩ := vals1 r
  subst hus
  obtain rfl : u = Value.ref a := ru
  obtain ⟨mA, O, _⟩ := ins_get I.hok ha
  obtain ⟨od, J, _⟩ := O.look
  refine PySem.W.kso_call (by have := hr.un; show X.A.units + 1 + 1 < cLine; omega) I.kIn J hm.at_ hm.fn (thn (run_in (us := [.ref a]) (vs := [.ref a]) F ⟨hr.in1.in1, rfl⟩ hb hx I (.cons rfl .nil) q) fun z s' y => ?_)
  obtain ⟨r', H', I', rz, x, e, q'⟩ := y
  subst e
  obtain ⟨t, rfl⟩ := rz
  exact ⟨.str x, H', I', ⟨_, rfl⟩, q'⟩
end
/-- f'..' under a name, for comprehensions -/
def tJoinD (ts : List TE) : TE := fun σ H Q => tJs ts Str.empty σ H fun out H1 => Q (.str out) H1
theorem pe_joinedD {X : Cx} {v1 v2 : Expr} {rest : List Expr} {ts : List TE} {pos : PySem.Pos} (h : PJ X (v1 :: v2 :: rest) ts) : PE X (.JoinedStr (v1 :: v2 :: rest) pos) (tJoinD ts) := pe_joined h
/-! ### texts of forms -/
open TL (tl joinL tl_append)
def frL (x : Int × Int) : List Nat := tl (toString x.1 : Str) ++ (tl ("/" : Str) ++ tl (toString x.2 : Str))
def termL (t : Tm) : List Nat := frL t.2 ++ (tl (" " : Str) ++ tl t.1)
def formL (ts : List Tm) (f : Int × Int) : List Nat := joinL (tl (" + " : Str)) (ts.map termL ++ [frL f])
theorem int_txt {i : Int} (h : i.natAbs < 2 ^ 900) : (toString i : Str).length ≤ 901 ∧ i.natAbs.log2 < 1920 := by
  have z := PySem.Flt.log2_lt_of (k := 900) (by decide) h
  refine ⟨?_, by omega⟩
  rw [PySem.ofString_length]
  exact int_text_length_le (a := i) (k := 900) (by decide) z
theorem frL_len {x : Int × Int} (h : Sm 900 x) : (frL x).length ≤ 1803 := by
  have a := (int_txt h.t).1
  have b := (int_txt h.b).1
  have c : ("/" : Str).length = 1 := by decide
  unfold frL
  rw [List.length_append, List.length_append, ← TL.len_tl, ← TL.len_tl, ← TL.len_tl, c]
  omega
theorem termL_len {t : Tm} (h : Sm 900 t.2) (n : Nm t.1) : (termL t).length ≤ 1807 := by
  have a := frL_len h
  have b : (tl t.1).length ≤ 3 := n.hi
  have c : (tl (" " : Str)).length = 1 := by decide
  unfold termL
  rw [List.length_append, List.length_append, c]
  omega
theorem sum_lens {m : Nat} : ∀ {l : List Str}, (∀ x ∈ l, x.length ≤ m) → (l.map (·.length)).sum ≤ l.length * m
  | [], _ => Nat.zero_le _
  | x :: r, h => by
    have a := sum_lens fun y hy => h y (List.mem_cons_of_mem x hy)
    have b := h x (List.mem_cons_self ..)
    rw [List.map_cons, List.sum_cons, List.length_cons, Nat.add_mul]
    omega
theorem lens_of {ys : List Str} {ts : List Tm} (h : ys.map tl = ts.map termL) (hs : ∀ t ∈ ts, Sm 900 t.2 ∧ Nm t.1) : ∀ x ∈ ys, x.length ≤ 1807 := fun x hx => by
  have m : tl x ∈ ts.map termL := by rw [← h]; exact List.mem_map.mpr ⟨x, hx, rfl⟩
  obtain ⟨t, ht, e⟩ := List.mem_map.mp m
  rw [TL.len_tl, ← e]
  exact termL_len (hs t ht).1 (hs t ht).2
def spShownF (K : PySem.W.Frag) : Sp := fun vs H Q _ => ∃ (p : Addr) (x : Int × Int), vs = [.ref p] ∧ FrA K H p x ∧ Sm 900 x ∧ ∀ y, tl y = frL x → Q (.str y) H
def spStrF (K : PySem.W.Frag) (C : Addr) : Sp := fun vs H Q _ => ∃ (D r : Addr) (k : Nat) (us : List Tm) (f : Int × Int), vs = [.ref r] ∧ FormT K C D H r us f ∧ TsK k us f ∧ k ≤ 900 ∧ ∀ y H', Evl.Ex H H' → tl y = formL us f → Q (.str y) H'
def spTextF (K : PySem.W.Frag) : Sp := fun vs H Q _ => ∃ (D pc : Addr) (v : V) (k : Nat) (us : List Tm) (f : Int × Int), vs = [v, .ref pc] ∧ Dt K D H v (.tuple (us.map tmD)) ∧ FrA K H pc f ∧ TsK k us f ∧ k ≤ 900 ∧ ∀ y H', Evl.Ex H H' → tl y = formL us f → Q (.str y) H'
/-- the factor of a name -/
def cfT (us : List Tm) (x : Str) : Int × Int := match us.find? fun t => t.1 == x with
  | some t => t.2
  | none => (0, 1)
def spFactor (K : PySem.W.Frag) (C : Addr) : Sp := fun vs H Q _ => ∃ (D r : Addr) (us : List Tm) (f : Int × Int) (x : Str), vs = [.ref r, .str x] ∧ FormT K C D H r us f ∧ us.length ≤ 6 ∧ ∀ p H', Evl.Ex H H' → FrA K H' p (cfT us x) → Q (.ref p) H'
def spOtherF (K : PySem.W.Frag) : Sp := fun vs H Q _ => ∃ (D pt pc F : Addr) (ns : List Str) (ts : List Tm) (f : Int × Int), vs = [.ref D, .ref pt, .ref pc, .ref F] ∧ DeckAt H D ∧ Dt K D H (.ref pt) (.tuple (ts.map tmD)) ∧ H pc = some (frV f) ∧ H F = some (.lst (ns.map V.str)) ∧ F ≠ D ∧ ns.length = 5 ∧ (∀ x ∈ ns, Nm x) ∧ ns.Nodup ∧ TsK 62 ts f ∧ (∀ t ∈ ts, t.1 ∈ ns) ∧
  ∀ (p q qc : Addr) (us : List Tm) (g : Int × Int) (H' : Hp), H' p = some (.tup [.ref q, .ref qc]) → Dt K D H' (.ref q) (.tuple (us.map tmD)) → H' qc = some (frV g) → TsK 200 us g → Bu D H H' → DeckAt H' D → Q (.ref p) H'
/-- what == says of a form and another value -/
def spEqF (K : PySem.W.Frag) (C : Addr) : Sp := fun vs H Q _ => ∃ (D r : Addr) (us : List Tm) (f : Int × Int) (y : V), vs = [.ref r, y] ∧ FormT K C D H r us f ∧ (∀ t ∈ us, Nm t.1) ∧
  ((∃ (r2 : Addr) (vs : List Tm) (g : Int × Int), y = .ref r2 ∧ FormT K C D H r2 vs g ∧ (∀ t ∈ vs, Nm t.1) ∧ Q (.bl (decide (us = vs) && decide (f = g))) H) ∨
   (∃ d, Dt K D H y d ∧ Q (.bl false) H))
end Qj
namespace Qj
open PySem PySem.Spec PySem.Calls PyProof.Rows L2
/-! ### a tuple laid anew, kept as it is; dict(tuple of pairs); tuple(d.items()) -/
/-- a tuple without attributes of its own -/
def FzT (H : Hp) (a : Addr) (xs : List V) : Prop := ∃ o : Obj, H a = some (.frz o (.tup xs)) ∧ o.dict = none
theorem FzT.sq {K : PySem.W.Frag} {H : Hp} {a : Addr} {xs : List V} (h : FzT H a xs) : SqT K H a xs := let ⟨o, e, _⟩ := h; .inl (.inr ⟨o, e⟩)
theorem FzT.ex {H H' : Hp} {a : Addr} {xs : List V} (h : FzT H a xs) (e : Evl.Ex H H') : FzT H' a xs := let ⟨o, x, d⟩ := h; ⟨o, e _ _ x, d⟩
/-- tuple(x) of a list -/
def kTupX (K : PySem.W.Frag) (x : V) (H : Hp) (Q : VK) : Prop := ∃ p xs, x = .ref p ∧ SqL K H p xs ∧ ∀ (q : Addr) (o : Obj), H q = none → o.dict = none → Q (.ref q) (upd H q (.frz o (.tup xs)))
section
variable {X : Cx} {a : Expr} {ta : TE}
theorem pe_tupleX {p pos : PySem.Pos} (hg : Gl X "tuple") (hm : X.mg "tuple" = none) (ha : PE X a ta) (na : starEach [a] X.env = (false, eval a X.env) :: starEach [] X.env := by rfl) :
    PE X (.Call (.Name "tuple" p) [a] [] pos) (tThen ta (kTupX X.K)) := by
  refine ⟨fun pins s σ H Q I h => ?_⟩
  refine Call_ (ld_blt I hg hm boot_tuple (PyProof.Rows.callWith_type1 (one_arg ha I h (fun v s2 x H2 I2 r q => ?_) na) na))
  obtain ⟨p, xs, rfl, hs, q⟩ := q
  obtain rfl : v = .ref p := r
  obtain ⟨its, rv, pl, hz⟩ := I2.list hs
  refine call_tuple_list pl.isList (fun h' hk => ?_) (by rw [List.size_toArray, ← rv.length]; exact hz)
  have I3 : Inv X pins σ H2 { s2 with heap := h' } := I2.kept (t' := s2.toks) hk
  have I4 : Inv X pins σ (upd H2 h'.objs.size (.frz { cls := .type "tuple", data := .seq its.toArray } (.tup xs))) { s2 with heap := h'.push { cls := .type "tuple", data := .seq its.toArray } } :=
    I3.laid (t' := s2.toks) (fun b o e => Heap.get?_push_of_some _ e) (Nat.le_refl _) (show ObjOk X.prog X.w _ _ _ (.frz _ (.tup xs)) from ⟨Heap.get?_push_size _ rfl, hz, its, rv, IsTup.new _ _⟩)
  exact ⟨.ref h'.objs.size, _, I4, rfl, q _ _ (I3.hok.fresh (Nat.le_refl _)) rfl⟩
/-- the pairs as values -/
theorem pairs_vals {pins : List (Addr × Obj)} {σ : L2.St} {H : Hp} {s : Shared} (I : Inv X pins σ H s) : ∀ {ps : List Addr} {kvs : List (Key × V)}, Paired (fun p kv => SqT X.K H p [kV kv.1, kv.2]) ps kvs →
    ∃ (pvs : List (Value × Value)) (prs : List (Key × Value)), KV kvs prs ∧ pvs.length = ps.length ∧ prs.length = ps.length ∧ ∀ (j : Nat) (k v : Value), pvs[j]? = some (k, v) → ∃ (b : Addr) (key : Key), ps[j]? = some b ∧ IsTup s.heap b #[k, v] ∧ prs[j]? = some (key, v) ∧ (mixKind X.prog X.w).is key k = true
  | _, _, .nil => ⟨[], [], .nil, rfl, rfl, fun j k v e => by simp at e⟩
  | _, _, .cons (a := p) (b := kv) h t => by
    obtain ⟨pvs, prs, r, h1, h2, hp⟩ := pairs_vals I t
    obtain ⟨its, rv, ht, _⟩ := I.tuple h
    obtain ⟨u, y, ei, ru, ry⟩ := vals2 rv
    subst ei
    refine ⟨(u, y) :: pvs, (kv.1, y) :: prs, .cons ⟨rfl, ry⟩ r, by rw [List.length_cons, List.length_cons, h1], by rw [List.length_cons, List.length_cons, h2], fun j k v e => ?_⟩
    cases j with
    | zero =>
      have e' : (u, y) = (k, v) := Option.some.inj e
      cases e'
      exact ⟨p, kv.1, rfl, ht, rfl, kV_is (P := X.prog) (w := X.w) ru⟩
    | succ j =>
      obtain ⟨b, key, e1, e2, e3, e4⟩ := hp j k v (by simpa using e)
      exact ⟨b, key, by simpa using e1, e2, by simpa using e3, e4⟩
/-- dict(xs) of a tuple of pairs -/
def rDictX (K : PySem.W.Frag) : List V → Hp → VK → Prop := fun xs H Q => ∃ (a : Addr) (ps : List Addr) (kvs : List (Key × V)), xs = [.ref a] ∧ FzT H a (ps.map V.ref) ∧ Paired (fun p kv => SqT K H p [kV kv.1, kv.2]) ps kvs ∧
    ∀ p, H p = none → Q (.ref p) (upd H p (.dK (mergeK [] kvs)))
theorem call_dictX (hcalm : X.calm = true) : CallR X (.type "dict") (rDictX X.K) := by
  intro pins s σ H xs us Q I r q
  obtain ⟨a, ps, kvs, ex, ⟨o, hq, od⟩, hp, q⟩ := q
  subst ex
  obtain ⟨u, eu, rx⟩ := vals1 r
  subst eu
  cases rx
  obtain ⟨eo, hz, its, rv, o2, e2, ecl, n, edat⟩ := (show ObjOk X.prog X.w H s.heap a (.frz o (.tup (ps.map V.ref))) from I.hok a _ hq)
  rw [eo] at e2
  cases e2
  have ei := refs_at rv
  subst ei
  rw [List.length_map] at hz
  obtain ⟨pvs, prs, rel, h1, h2, hpr⟩ := pairs_vals I hp
  refine PySem.call_dict_pairs (knd := mixKind X.prog X.w) (kvs := prs) (PairArg.tuple (prog := X.prog) (w := X.w) a (ps.map Value.ref).toArray (fun j => ps[j]?.getD 0) pvs) (I.ok.hd hcalm) ⟨⟨o, n, eo, ecl, od, edat⟩, by simp [h1], fun j k v e => ?_⟩ ⟨h2.trans h1.symm, fun j k v e => ?_⟩ (by rw [h1]; exact hz) fun h' tk hd' k => ?_
  · obtain ⟨b, key, e1, ⟨ob, g1, g2, g3⟩, e3, e4⟩ := hpr j k v e
    refine ⟨by simp [e1], .inl ?_⟩
    show s.heap.IsTuple (ps[j]?.getD 0) #[k, v]
    rw [e1]
    exact ⟨ob, g1, g2, g3⟩
  · obtain ⟨b, key, e1, e2, e3, e4⟩ := hpr j k v e
    exact ⟨key, e3, e4⟩
  · have hm : (s.heap.objs.size == sysModules) = false := beq_eq_false_iff_ne.mpr (Nat.ne_of_gt I.big)
    have hlen : (mergeK [] kvs).length ≤ sizeLine := by
      refine Nat.le_trans (length_mergeK kvs []) ?_
      rw [List.length_nil, Nat.zero_add, rel.length, h2]
      exact hz
    exact ⟨.ref s.heap.objs.size, upd H s.heap.objs.size (.dK (mergeK [] kvs)), I.laid (t' := tk) (fun b o e => k b o (by simp) e) (Nat.le_refl _) (show ObjOk X.prog X.w _ _ _ (.dK (mergeK [] kvs)) from ⟨hlen, hm, merged [] prs, KV.merge rel .nil, hd'⟩), rfl, q _ (I.hok.fresh (Nat.le_refl _))⟩
end
/-! ### tuple(d.items()) -/
section
variable {prog : Program} {w : World} {A : Around} {E : Value → Shared → Prop} {s : Shared} {K : Type} [DecidableEq K] {knd : KeyKind prog w K} {r d : Addr} {kvs : List (K × Value)} {ep : Nat}
theorem code_tuple_new_items {Q₁ : Value → Shared → Prop} (hh : A.handled = none) (hv : s.heap.IsItemsView r d) (hm : s.heap.DictAt knd d kvs ep) (hn : kvs.length ≤ sizeLine)
    (h : ∀ (h' : Heap) (tk : Nat) (as : List Addr), (∀ b o, s.heap.get? b = some o → h'.get? b = some o) → as.length = kvs.length → PySem.W.KdxG knd kvs s.heap.objs.size h' as →
      Q₁ (.ref h'.objs.size) { s with heap := h'.push { cls := .type "tuple", data := .seq (as.map Value.ref).toArray }, toks := tk }) :
    codeAny (model prog w) A (.call (.builtin "tuple.__new__") ⟨[.type "tuple", .ref r], []⟩) (wants Q₁ E) s := by
  refine codeAny_of_tree ?_
  show wpAny _ A.in1 (do checkBuiltinCall "tuple.__new__" ⟨[.type "tuple", .ref r], []⟩; again (.builtin "tuple.__new__" ⟨[.type "tuple", .ref r], []⟩)) _ _ s
  refine wpAny_bind (wpAny_of_eq (F.newCall_tuple_1 _) (wpAny_pure ⟨plainId_quiet F.plain_tuple_new _, codeAny_builtin F.entry_tuple_new ?_⟩))
  rw [Around.under_plainId F.plain_tuple_new _]
  have hsub := sub_tuple_self
  have hinit := init_tuple_lookup
  have hmh := madeHere_tuple
  have hTI : s.TypeIs (.ref r) "dict_items" := let ⟨o, ho, hc, _⟩ := hv; ⟨o, ho, hc⟩
  have hh1 : A.in1.handled = none := hh
  wp_walk using wpAny_typeOf hTI, PySem.W.kdx_collect (A := A.in1) hh1 hv hm hn
  intro h' tk as hk hl hG
  show wpAny _ _ (Builtin.Tuple.tupleExact (as.map Value.ref).toArray >>= fun v => ret v) _ _ _
  unfold Builtin.Tuple.tupleExact
  refine wpAny_bind (wpAny_newObj_type ?_ (by show (as.map Value.ref).toArray.size ≤ sizeLine; rw [List.size_toArray, List.length_map, hl]; exact hn))
  refine wpAny_pure ?_
  exact h h' tk as hk hl hG
theorem call_tuple_items {Q : Value → Shared → Prop} (hh : A.handled = none) (hv : s.heap.IsItemsView r d) (hm : s.heap.DictAt knd d kvs ep) (hn : kvs.length ≤ sizeLine)
    (hQ : ∀ (h' : Heap) (tk : Nat) (as : List Addr), (∀ b o, s.heap.get? b = some o → h'.get? b = some o) → as.length = kvs.length → PySem.W.KdxG knd kvs s.heap.objs.size h' as →
      Q (.ref h'.objs.size) { s with heap := h'.push { cls := .type "tuple", data := .seq (as.map Value.ref).toArray }, toks := tk }) :
    wpAny (model prog w) A (call (.type "tuple") [.ref r]) Q E s := by
  refine callType_codes (Q₁ := fun obj s₁ => s₁.TypeIs obj "tuple" ∧ Q obj s₁) F.called_tuple (F.typeCall_tuple_1 _) F.entry_object_init
    (code_tuple_new_items (A := A.in1) hh hv hm hn fun h' tk as hk hl hG => ⟨⟨_, Heap.get?_push_size _ rfl, rfl⟩, hQ h' tk as hk hl hG⟩) fun obj s₁ h₁ => ?_
  exact ⟨h₁.1, F.args_object_init_2 obj _, object_init_meets F.called_tuple.init.lookup F.called_tuple.made (by decide) prog w A.in1 _ s₁ ⟨h₁.1, rfl, h₁.2⟩⟩
end
section
variable {X : Cx} {e : Expr} {te : TE} {p apos cpos pos : PySem.Pos}
theorem items_laidT {pins : List (Addr × Obj)} {σ : L2.St} {H : Hp} {s : Shared} {h' : Heap} {tk : Nat} {kvs : List (Key × V)} {vs : List (Key × Value)} {as : List Addr} (I : Inv X pins σ H s) (kv : KV kvs vs)
    (hk : ∀ b o, s.heap.get? b = some o → h'.get? b = some o) (hl : as.length = vs.length) (hG : PySem.W.KdxG (mixKind X.prog X.w) vs s.heap.objs.size h' as) :
    ∃ H' : Hp, (∀ b o, H b = some o → H' b = some o) ∧ Paired (fun (t : Addr) (q : Key × V) => H' t = some (.tup [kV q.1, q.2])) as kvs ∧ Inv X pins σ H' { s with heap := h', toks := tk } := by
  have lk : kvs.length = vs.length := Paired.length kv
  have nd : as.Nodup := List.Pairwise.imp (fun {a b} (h : a < b) => Nat.ne_of_lt h) hG.rise
  have new : ∀ t ∈ as, H t = none := fun t ht => I.hok.fresh (Nat.le_of_lt (hG.above t ht))
  have atP := LiI.putT_at as kvs H (by omega) nd
  have off : ∀ b, b ∉ as → LiI.putT H as kvs b = H b := fun b h1 => LiI.putT_off as kvs _ h1
  have low : ∀ b o, s.heap.get? b = some o → b ∉ as := fun b o e z => absurd (Heap.lt_size e) (Nat.not_lt.mpr (Nat.le_of_lt (hG.above b z)))
  have kp : ∀ b u, H b = some u → (LiI.putT H as kvs) b = some u := fun b u e => by
    rw [off b (fun z => by rw [new b z] at e; cases e)]
    exact e
  refine ⟨LiI.putT H as kvs, kp, atP, ?_⟩
  refine I.call' (ch := []) rfl ⟨fun b o q _ _ _ => hk b o q, fun b o q _ _ _ => ⟨o.slots, hk b o q⟩, fun b o q n _ => ?_, fun b o q _ => ⟨o, hk b o q⟩, fun b xs q => kp b _ q, fun b o u q => kp b _ q, fun b ps q => ⟨#[], by rw [kp b _ q]; simp⟩⟩ (fun b u q => ?_) I.bare fun b z => by simp at z
  · rw [off b (low b o q)]
    exact n
  · by_cases hb : b ∈ as
    · obtain ⟨j, pk, e1, e2, e3⟩ := LiI.paired_ix atP hb
      rw [e3] at q
      cases q
      obtain ⟨key, k, x, f1, f2, f3⟩ := hG.pairs j b e1
      obtain ⟨qv, g1, g2, g3⟩ := LiI.paired_get kv e2
      rw [f1] at g1
      cases g1
      have rk : RelV (kV pk.1) key := by
        rw [g2]
        exact relV_key (show keyIs k key = true from f2)
      exact ⟨by show 2 ≤ sizeLine; decide, [key, x], .cons rk (.cons g3 .nil), ⟨_, f3, rfl, _, rfl⟩⟩
    · rw [off b hb] at q
      exact (I.hok b u q).stay (fun d v _ y => hk d v y) (fun d y => kp d _ y) fun d xs y => kp d _ y
/-- tuple(e.items()) -/
def tTupItems (te : TE) : TE := fun σ H Q => te σ H fun x H1 => ∃ (d : Addr) (kvs : List (Key × V)), x = .ref d ∧ H1 d = some (.dK kvs) ∧
  ∀ (H' : Hp) (q : Addr) (o : Obj) (ts : List Addr), Evl.Ex H1 H' → H' q = none → o.dict = none → Paired (fun (t : Addr) (z : Key × V) => H' t = some (.tup [kV z.1, z.2])) ts kvs → Q (.ref q) (upd H' q (.frz o (.tup (ts.map V.ref))))
theorem pe_tupItems (hc : X.calm = true) (hg : Gl X "tuple") (hm : X.mg "tuple" = none) (he : PE X e te) (hbase : attributeBase e "items" X.env (eval e X.env) = eval e X.env := by rfl) (hline : (apos.endLine == cpos.line) = true := by rfl)
    (hs : starEach [.Call (.Attribute e "items" apos) [] [] cpos] X.env = (false, eval (.Call (.Attribute e "items" apos) [] [] cpos) X.env) :: starEach [] X.env := by rfl) :
    PE X (.Call (.Name "tuple" p) [.Call (.Attribute e "items" apos) [] [] cpos] [] pos) (tTupItems te) := by
  refine ⟨fun pins s σ H Q I hq => ?_⟩
  refine wpAny_Call_Name_kw (ld_blt I hg hm boot_tuple ?_)
  refine PyProof.Rows.callWith_type1 ?_ hs rfl
  rw [hs]
  show wpAny _ _ (spliced ((false, eval (.Call (.Attribute e "items" apos) [] [] cpos) X.env) :: backTo pos (starEach [] X.env))) _ _ s
  refine Calls.spliced_cons ?_
  refine wpAny_Call_method (T := "dict") (id := "dict.items") hbase rfl hline F.plainAttrs_dict F.slot_dict_items F.type_dict_items (thn (he.run pins s σ H _ I hq) fun u s1 ⟨x, H1, I1, rx, d, kvs, ex, hd, q⟩ => ?_)
  subst ex
  obtain rfl : u = Value.ref d := rx
  obtain ⟨hz, hs0, vs, kv, hdo⟩ := I1.hok d _ hd
  obtain ⟨ep, hat⟩ := hdo.dictAt
  have lk : kvs.length = vs.length := Paired.length kv
  have I2 : Inv X pins σ H1 { s1 with heap := s1.heap.push { cls := .type "dict_items", data := .fields #[.ref d] } } := I1.kept (t' := s1.toks) fun b ob q => Heap.get?_push_of_some _ q
  refine ⟨hdo.typeIs, hdo.mapOf.noDict, ?_⟩
  show wpAny _ _ (callWith cpos (.builtin "dict.items") [.ref d] [] []) _ X.xe s1
  refine method_meetsIn F.slot_dict_items F.entry_dict_items rfl (PySem.evalArgs_none ⟨rfl, hdo.typeIs, F.args_dict_items_1 _, _, meets_dict_items (mixKind X.prog X.w) d hs0, ⟨vs, hdo⟩, ?_⟩)
  refine Calls.spliced_nil ?_
  refine call_tuple_items (knd := mixKind X.prog X.w) (kvs := vs) (ep := ep) (I1.ok.hd hc) ⟨_, Heap.get?_push_size _ rfl, rfl, rfl⟩ (hat.push _) (by omega) fun h' tk as hk hl hG => ?_
  obtain ⟨H', k1, k2, J⟩ := items_laidT (tk := tk) I2 kv hk hl hG
  have J2 : Inv X pins σ (upd H' h'.objs.size (.frz { cls := .type "tuple", data := .seq (as.map Value.ref).toArray } (.tup (as.map V.ref)))) { s1 with heap := h'.push { cls := .type "tuple", data := .seq (as.map Value.ref).toArray }, toks := tk } :=
    J.laid (t' := tk) (fun b o e => Heap.get?_push_of_some _ e) (Nat.le_refl _) (show ObjOk X.prog X.w _ _ _ (.frz _ (.tup (as.map V.ref))) from ⟨Heap.get?_push_size _ rfl, by rw [List.length_map, hl]; omega, _, LiI.vals_refs as, IsTup.new _ _⟩)
  exact ⟨.ref _, _, J2, rfl, q _ _ _ as (fun b o e => k1 b o e) (J.hok.fresh (Nat.le_refl _)) rfl k2⟩
end
end Qj
namespace Qj
open PySem PySem.Spec PyProof.Rows L2
/-! ### fractions as rational numbers -/
def rv (x : Int × Int) : Rat := (x.1 : Rat) / (x.2 : Rat)
theorem cast_ne {b : Int} (h : b ≠ 0) : (b : Rat) ≠ 0 := by exact_mod_cast h
theorem cast_pos {b : Int} (h : 0 < b) : (0 : Rat) < (b : Rat) := by exact_mod_cast h
/-- lowest terms -/
structure Lowt (x : Int × Int) : Prop where
  p : 0 < x.2
  g : Nat.gcd x.1.natAbs x.2.natAbs = 1
theorem rv_cross {x y : Int × Int} (a : 0 < x.2) (b : 0 < y.2) : rv x = rv y ↔ x.1 * y.2 = y.1 * x.2 := by
  have h1 := cast_pos a
  have h2 := cast_pos b
  constructor
  · intro e
    have e2 : (x.1 : Rat) * y.2 = y.1 * x.2 := by
      unfold rv at e
      grind
    exact_mod_cast e2
  · intro e
    have e2 : (x.1 : Rat) * y.2 = y.1 * x.2 := by exact_mod_cast e
    unfold rv
    grind
theorem rv_inj {x y : Int × Int} (a : Lowt x) (b : Lowt y) (e : rv x = rv y) : x = y := low_uniq a.p b.p a.g b.g ((rv_cross a.p b.p).mp e)
theorem fr_flip {t b : Int} (h : b < 0) : fr t b = fr (-t) (-b) := by
  unfold fr
  rw [if_neg (by omega), if_pos (show 0 < -b by omega), Int.natAbs_neg, Int.natAbs_neg]
  simp
theorem fr_low {t b : Int} (h : b ≠ 0) : (fr t b).1 * b = t * (fr t b).2 ∧ 0 < (fr t b).2 ∧ Nat.gcd (fr t b).1.natAbs (fr t b).2.natAbs = 1 := by
  by_cases p : 0 < b
  · obtain ⟨h1, h2, _, h3⟩ := fr_eq (t := t) p
    exact ⟨h1, h2, h3⟩
  · have n : b < 0 := by omega
    obtain ⟨h1, h2, _, h3⟩ := fr_eq (t := -t) (b := -b) (by omega)
    rw [fr_flip n]
    exact ⟨by grind, h2, h3⟩
theorem lw_fr {t b : Int} (h : b ≠ 0) : Lowt (fr t b) := by
  obtain ⟨h1, h2, h3⟩ := fr_low (t := t) h
  exact ⟨h2, h3⟩
theorem rv_fr {t b : Int} (h : b ≠ 0) : rv (fr t b) = (t : Rat) / (b : Rat) := by
  obtain ⟨h1, h2, h3⟩ := fr_low (t := t) h
  have e2 : ((fr t b).1 : Rat) * b = t * (fr t b).2 := by exact_mod_cast h1
  have c1 := cast_ne h
  have c2 := cast_pos h2
  unfold rv
  grind
theorem mul_ne {a b : Int} (h : 0 < a) (g : 0 < b) : a * b ≠ 0 := Int.ne_of_gt (Int.mul_pos h g)
theorem lw_pl {x y : Int × Int} (a : 0 < x.2) (b : 0 < y.2) : Lowt (pl x y) := lw_fr (mul_ne a b)
theorem lw_mi {x y : Int × Int} (a : 0 < x.2) (b : 0 < y.2) : Lowt (mi x y) := lw_fr (mul_ne a b)
theorem lw_ti {x y : Int × Int} (a : 0 < x.2) (b : 0 < y.2) : Lowt (ti x y) := lw_fr (mul_ne a b)
theorem lw_ov {x y : Int × Int} (a : 0 < x.2) (b : y.1 ≠ 0) : Lowt (ov x y) := lw_fr (Int.mul_ne_zero (Int.ne_of_gt a) b)
theorem rv_pl {x y : Int × Int} (a : 0 < x.2) (b : 0 < y.2) : rv (pl x y) = rv x + rv y := by
  have h1 := cast_pos a
  have h2 := cast_pos b
  unfold pl
  rw [rv_fr (mul_ne a b)]
  unfold rv
  simp only [Rat.intCast_add, Rat.intCast_mul]
  grind
theorem rv_mi {x y : Int × Int} (a : 0 < x.2) (b : 0 < y.2) : rv (mi x y) = rv x - rv y := by
  have h1 := cast_pos a
  have h2 := cast_pos b
  unfold mi
  rw [rv_fr (mul_ne a b)]
  unfold rv
  simp only [Rat.intCast_sub, Rat.intCast_mul]
  grind
theorem rv_ti {x y : Int × Int} (a : 0 < x.2) (b : 0 < y.2) : rv (ti x y) = rv x * rv y := by
  have h1 := cast_pos a
  have h2 := cast_pos b
  unfold ti
  rw [rv_fr (mul_ne a b)]
  unfold rv
  simp only [Rat.intCast_mul]
  grind
theorem rv_ov {x y : Int × Int} (a : 0 < x.2) (b : 0 < y.2) (c : y.1 ≠ 0) : rv (ov x y) = rv x / rv y := by
  have h1 := cast_pos a
  have h2 := cast_pos b
  have h3 := cast_ne c
  unfold ov
  rw [rv_fr (Int.mul_ne_zero (Int.ne_of_gt a) c)]
  unfold rv
  simp only [Rat.intCast_mul]
  grind
theorem rv_zero {x : Int × Int} (a : 0 < x.2) : rv x = 0 ↔ x.1 = 0 := by
  have h1 := cast_pos a
  constructor
  · intro e
    have : (x.1 : Rat) = 0 := by
      unfold rv at e
      grind
    exact_mod_cast this
  · intro e
    unfold rv
    rw [e]
    grind
theorem rv_01 : rv (0, 1) = 0 := (rv_zero (x := (0, 1)) (by decide)).mpr rfl
theorem rv_int (t : Int) : rv (t, 1) = (t : Rat) := by
  unfold rv
  show (t : Rat) / ((1 : Int) : Rat) = t
  grind
theorem lw_01 : Lowt (0, 1) := ⟨by decide, by decide⟩
theorem rv_lt {x y : Int × Int} (a : 0 < x.2) (b : 0 < y.2) : rv x < rv y ↔ x.1 * y.2 < y.1 * x.2 := by
  have h1 := cast_pos a
  have h2 := cast_pos b
  have ex : rv x * x.2 = x.1 := by unfold rv; grind
  have ey : rv y * y.2 = y.1 := by unfold rv; grind
  have h3 : (0 : Rat) < (x.2 : Rat) * y.2 := Rat.mul_pos h1 h2
  have key : rv x < rv y ↔ (x.1 : Rat) * y.2 < y.1 * x.2 := by
    rw [← ex, ← ey]
    rw [show rv x * (x.2 : Rat) * y.2 = rv x * (x.2 * y.2) by grind, show rv y * (y.2 : Rat) * x.2 = rv y * (x.2 * y.2) by grind]
    constructor
    · intro h
      exact (Rat.mul_lt_mul_right h3).mpr h
    · intro h
      exact (Rat.mul_lt_mul_right h3).mp h
  rw [key]
  exact_mod_cast Iff.rfl
end Qj
namespace Qj
open PySem PySem.Spec PyProof.Rows L2
/-! ### what terms come to -/
theorem cfT_cons {t : Tm} {r : List Tm} {x : Str} : cfT (t :: r) x = if t.1 = x then t.2 else cfT r x := by
  unfold cfT
  by_cases e : t.1 = x
  · rw [if_pos e, List.find?_cons_of_pos (by simpa using e)]
  · rw [if_neg e, List.find?_cons_of_neg (by simpa using e)]
theorem cfT_none {ts : List Tm} {x : Str} (h : ∀ t ∈ ts, t.1 ≠ x) : cfT ts x = (0, 1) := by
  induction ts with
  | nil => rfl
  | cons t r ih =>
    rw [cfT_cons, if_neg (h t (List.mem_cons_self ..))]
    exact ih fun u hu => h u (List.mem_cons_of_mem _ hu)
theorem cfT_mem {ts : List Tm} (nd : (ts.map (·.1)).Nodup) : ∀ {t : Tm}, t ∈ ts → cfT ts t.1 = t.2 := by
  intro t ht
  induction ts with
  | nil => cases ht
  | cons a r ih =>
    rw [List.map_cons, List.nodup_cons] at nd
    rw [cfT_cons]
    rcases List.mem_cons.mp ht with rfl | h
    · rw [if_pos rfl]
    · rw [if_neg (fun z => nd.1 (by rw [z]; exact List.mem_map.mpr ⟨t, h, rfl⟩))]
      exact ih nd.2 h
theorem cfT_cases (ts : List Tm) (x : Str) : (∃ t ∈ ts, t.1 = x ∧ cfT ts x = t.2) ∨ ((∀ t ∈ ts, t.1 ≠ x) ∧ cfT ts x = (0, 1)) := by
  induction ts with
  | nil => exact .inr ⟨(fun _ h => nomatch h), rfl⟩
  | cons a r ih =>
    rw [cfT_cons]
    by_cases e : a.1 = x
    · rw [if_pos e]
      exact .inl ⟨a, List.mem_cons_self .., e, rfl⟩
    · rw [if_neg e]
      rcases ih with ⟨t, h1, h2, h3⟩ | ⟨h1, h2⟩
      · exact .inl ⟨t, List.mem_cons_of_mem _ h1, h2, h3⟩
      · refine .inr ⟨fun t ht => ?_, h2⟩
        rcases List.mem_cons.mp ht with rfl | h
        · exact e
        · exact h1 t h
theorem cfT_all {P : Int × Int → Prop} {ts : List Tm} (h : ∀ t ∈ ts, P t.2) (z : P (0, 1)) (x : Str) : P (cfT ts x) := by
  rcases cfT_cases ts x with ⟨t, h1, _, h3⟩ | ⟨_, h2⟩
  · rw [h3]
    exact h t h1
  · rw [h2]
    exact z
/-- each name's factor times what the name stands for -/
def lin (c : Str → Rat) (ts : List Tm) : Rat := (ts.map fun t => rv t.2 * c t.1).sum
theorem sum_add {α : Type} (f g : α → Rat) : ∀ ns : List α, (ns.map fun x => f x + g x).sum = (ns.map f).sum + (ns.map g).sum
  | [] => by simp; grind
  | x :: r => by
    rw [List.map_cons, List.sum_cons, sum_add f g r, List.map_cons, List.sum_cons, List.map_cons, List.sum_cons]
    grind
theorem sum_mul {α : Type} (k : Rat) (f : α → Rat) : ∀ ns : List α, (ns.map fun x => k * f x).sum = k * (ns.map f).sum
  | [] => by simp
  | x :: r => by
    rw [List.map_cons, List.sum_cons, sum_mul k f r, List.map_cons, List.sum_cons]
    grind
theorem sum_one {ns : List Str} {x : Str} (nd : ns.Nodup) (hx : x ∈ ns) (k : Str → Rat) : (ns.map fun y => if x = y then k y else 0).sum = k x := by
  induction ns with
  | nil => cases hx
  | cons n r ih =>
    rw [List.nodup_cons] at nd
    rw [List.map_cons, List.sum_cons]
    have z0 : ∀ {l : List Str}, x ∉ l → (l.map fun y => if x = y then k y else 0).sum = 0 := by
      intro l
      induction l with
      | nil => intro _; rfl
      | cons a s ih2 =>
        intro h
        rw [List.map_cons, List.sum_cons, ih2 (fun z => h (List.mem_cons_of_mem _ z)), if_neg (fun z => h (by rw [z]; exact List.mem_cons_self ..))]
        grind
    rcases List.mem_cons.mp hx with rfl | h
    · rw [if_pos rfl, z0 nd.1]
      grind
    · rw [if_neg (fun z : x = n => nd.1 (by rw [← z]; exact h)), ih nd.2 h]
      grind
/-- over all names at once -/
theorem lin_over {ns : List Str} (un : ns.Nodup) (c : Str → Rat) : ∀ {ts : List Tm}, (ts.map (·.1)).Nodup → (∀ t ∈ ts, t.1 ∈ ns) → lin c ts = (ns.map fun x => rv (cfT ts x) * c x).sum
  | [], _, _ => by
    have : (fun x : Str => rv (cfT [] x) * c x) = fun x => 0 * c x := by
      funext x
      rw [show cfT [] x = (0, 1) from rfl, rv_01]
    rw [this, sum_mul]
    show (0 : Rat) = _
    grind
  | t :: r, nd, sub => by
    rw [List.map_cons, List.nodup_cons] at nd
    have ih := lin_over un c nd.2 fun u hu => sub u (List.mem_cons_of_mem _ hu)
    have e0 : cfT r t.1 = (0, 1) := cfT_none fun u hu z => nd.1 (by rw [← z]; exact List.mem_map.mpr ⟨u, hu, rfl⟩)
    have e1 : (fun x => rv (cfT (t :: r) x) * c x) = fun x => (if t.1 = x then rv t.2 * c x else 0) + rv (cfT r x) * c x := by
      funext x
      rw [cfT_cons]
      by_cases e : t.1 = x
      · rw [if_pos e, if_pos e, ← e, e0, rv_01]
        grind
      · rw [if_neg e, if_neg e]
        grind
    rw [e1, sum_add, ← ih, sum_one un (sub t (List.mem_cons_self ..)) (fun x => rv t.2 * c x)]
    rfl
/-- what a name stands for -/
def cz (o : Str → Option (Int × Int)) (x : Str) : Rat := match o x with
  | some y => rv y
  | none => 0
theorem rv_valL {o : Str → Option (Int × Int)} (ho : ∀ x g, o x = some g → 0 < g.2) : ∀ {ts : List Tm} {f : Int × Int}, 0 < f.2 → (∀ t ∈ ts, 0 < t.2.2) → rv (valL o ts f) = rv f + lin (cz o) ts
  | [], f, _, _ => by
    show rv f = rv f + 0
    grind
  | t :: r, f, hf, ht => by
    have p := vstep_pos hf ho (ht t (List.mem_cons_self ..))
    have ih := rv_valL ho p fun u hu => ht u (List.mem_cons_of_mem _ hu)
    show rv (valL o r (vstep o f t)) = rv f + (rv t.2 * cz o t.1 + lin (cz o) r)
    rw [ih]
    have e : rv (vstep o f t) = rv f + rv t.2 * cz o t.1 := by
      unfold vstep cz
      cases eo : o t.1 with
      | none =>
        dsimp only
        grind
      | some y =>
        dsimp only
        have t2 := ht t (List.mem_cons_self ..)
        rw [rv_pl hf (ti_pos t2 (ho _ _ eo)), rv_ti t2 (ho _ _ eo)]
    rw [e]
    grind
theorem valL_low {o : Str → Option (Int × Int)} (ho : ∀ x g, o x = some g → 0 < g.2) : ∀ {ts : List Tm} {f : Int × Int}, Lowt f → (∀ t ∈ ts, 0 < t.2.2) → Lowt (valL o ts f)
  | [], _, h, _ => h
  | t :: r, f, h, ht => by
    refine valL_low (ts := r) (f := vstep o f t) ho ?_ fun u hu => ht u (List.mem_cons_of_mem _ hu)
    unfold vstep
    split
    · next y e => exact lw_pl h.p (ti_pos (ht t (List.mem_cons_self ..)) (ho _ _ e))
    · exact h
/-! ### forms' terms are told by what they come to -/
structure Frm (k : Nat) (us : List Tm) (f : Int × Int) : Prop where
  t : TsK k us f
  r : RiseS us
  z : ∀ t ∈ us, t.2.1 ≠ 0
theorem Frm.low {k : Nat} {us : List Tm} {f : Int × Int} (h : Frm k us f) : ∀ t ∈ us, Lowt t.2 := fun t m => ⟨(h.t.s t m).p, h.t.g t m⟩
theorem Frm.lowf {k : Nat} {us : List Tm} {f : Int × Int} (h : Frm k us f) : Lowt f := ⟨h.t.fs.p, h.t.fg⟩
theorem Frm.mono {j k : Nat} {us : List Tm} {f : Int × Int} (h : Frm j us f) (hk : j ≤ k) : Frm k us f := ⟨h.t.mono hk, h.r, h.z⟩
theorem Frm.of {k : Nat} {ts us : List Tm} {f : Int × Int} (h : TsK k ts f) (p : us.Perm (keptT ts)) (r : RiseS us) : Frm k us f := ⟨h.keep p, r, fun t m => by
  have z := (List.mem_filter.mp (p.mem_iff.mp m)).2
  simpa using z⟩
theorem rv_kept {ts us : List Tm} (nd : (ts.map (·.1)).Nodup) (lo : ∀ t ∈ ts, 0 < t.2.2) (p : us.Perm (keptT ts)) (x : Str) : rv (cfT us x) = rv (cfT ts x) := by
  have ndk : ((keptT ts).map (·.1)).Nodup := List.Nodup.sublist (List.Sublist.map _ List.filter_sublist) nd
  have ndu : (us.map (·.1)).Nodup := ((p.map (·.1)).nodup_iff).mpr ndk
  rcases cfT_cases ts x with ⟨t, h1, h2, h3⟩ | ⟨h1, h2⟩
  · rw [h3]
    by_cases z : t.2.1 = 0
    · have e : cfT us x = (0, 1) := cfT_none fun u hu eu => by
        have hk := List.mem_filter.mp (p.mem_iff.mp hu)
        have e1 := cfT_mem nd h1
        have e2 := cfT_mem nd hk.1
        rw [h2] at e1
        rw [eu] at e2
        have e3 := e2.symm.trans e1
        have nz : u.2.1 ≠ 0 := by simpa using hk.2
        exact nz (by rw [e3]; exact z)
      rw [e, rv_01, (rv_zero (lo t h1)).mpr z]
    · have hm : t ∈ us := p.mem_iff.mpr (List.mem_filter.mpr ⟨h1, by simpa using z⟩)
      rw [← h2, cfT_mem ndu hm]
  · rw [h2, cfT_none fun u hu => h1 u (List.mem_filter.mp (p.mem_iff.mp hu)).1]
theorem Frm.sub {j k : Nat} {us vs : List Tm} {f g : Int × Int} (a : Frm j us f) (b : Frm k vs g) (h : ∀ x, rv (cfT us x) = rv (cfT vs x)) : ∀ t ∈ us, t ∈ vs := by
  intro t ht
  have e := h t.1
  rw [cfT_mem a.t.u ht] at e
  rcases cfT_cases vs t.1 with ⟨u, h1, h2, h3⟩ | ⟨h1, h2⟩
  · rw [h3] at e
    have : t.2 = u.2 := rv_inj (a.low t ht) (b.low u h1) e
    have e2 : t = u := Prod.ext h2.symm this
    rw [e2]
    exact h1
  · rw [h2, rv_01] at e
    exact absurd ((rv_zero (a.low t ht).p).mp e) (a.z t ht)
theorem Frm.one {j k : Nat} {us vs : List Tm} {f g : Int × Int} (a : Frm j us f) (b : Frm k vs g) (h : ∀ x, rv (cfT us x) = rv (cfT vs x)) : us = vs := by
  have nu : us.Nodup := List.Pairwise.of_map (fun t : Tm => t.1) (fun _ _ h e => h (congrArg (fun t : Tm => t.1) e)) a.t.u
  have nv : vs.Nodup := List.Pairwise.of_map (fun t : Tm => t.1) (fun _ _ h e => h (congrArg (fun t : Tm => t.1) e)) b.t.u
  have p : us.Perm vs := (List.perm_ext_iff_of_nodup nu nv).mpr fun t => ⟨a.sub b h t, b.sub a (fun x => (h x).symm) t⟩
  have kv : keptT vs = vs := List.filter_eq_self.mpr fun t ht => by simpa using b.z t ht
  exact rise_oneT (ws := vs) b.t.u (by rw [kv]; exact p) (by rw [kv]) a.r b.r
/-! ### a dict of names and fractions, in its order -/
def putTm (ts : List Tm) (x : Str) (g : Int × Int) : List Tm := if (ts.any fun t => decide (t.1 = x)) = true then ts.map (fun t => if t.1 = x then (t.1, g) else t) else ts ++ [(x, g)]
theorem any_nm {ts : List Tm} {x : Str} : (ts.any fun t => decide (t.1 = x)) = true ↔ ∃ t ∈ ts, t.1 = x := by simp
theorem putTm_nm {ts : List Tm} {x : Str} {g : Int × Int} : (putTm ts x g).map (·.1) = if ∃ t ∈ ts, t.1 = x then ts.map (·.1) else ts.map (·.1) ++ [x] := by
  unfold putTm
  by_cases a : (ts.any fun t => decide (t.1 = x)) = true
  · rw [if_pos a, if_pos (any_nm.mp a), List.map_map]
    refine List.map_congr_left fun t _ => ?_
    show (if t.1 = x then (t.1, g) else t).1 = t.1
    split <;> rfl
  · rw [if_neg a, if_neg (fun z => a (any_nm.mpr z)), List.map_append]
    rfl
theorem putTm_mem {ts : List Tm} {x : Str} {g : Int × Int} {t : Tm} (h : t ∈ putTm ts x g) : t = (x, g) ∨ (t ∈ ts) := by
  unfold putTm at h
  split at h
  · obtain ⟨u, hu, e⟩ := List.mem_map.mp h
    by_cases z : u.1 = x
    · rw [if_pos z] at e
      exact .inl (by rw [← e, z])
    · rw [if_neg z] at e
      exact .inr (e ▸ hu)
  · rcases List.mem_append.mp h with h | h
    · exact .inr h
    · exact .inl (List.mem_singleton.mp h)
theorem cfT_map {ts : List Tm} {x y : Str} {g : Int × Int} : cfT (ts.map fun t => if t.1 = x then (t.1, g) else t) y = if x = y ∧ (∃ t ∈ ts, t.1 = x) then g else cfT ts y := by
  induction ts with
  | nil => simp [cfT]
  | cons t r ih =>
    rw [List.map_cons, cfT_cons, cfT_cons, ih]
    by_cases e : t.1 = x
    · rw [if_pos e]
      dsimp only
      by_cases f : x = y
      · rw [if_pos (e.trans f), if_pos ⟨f, t, List.mem_cons_self .., e⟩]
      · rw [if_neg (fun z => f (e.symm.trans z)), if_neg (fun z => f z.1), if_neg (fun z => f z.1), if_neg (fun z => f (e.symm.trans z))]
    · rw [if_neg e]
      by_cases f : t.1 = y
      · rw [if_pos f, if_pos f]
        rw [if_neg (fun z => e (f.trans z.1.symm))]
      · rw [if_neg f, if_neg f]
        have : (∃ u ∈ t :: r, u.1 = x) ↔ ∃ u ∈ r, u.1 = x := by
          constructor
          · rintro ⟨u, hu, eu⟩
            rcases List.mem_cons.mp hu with rfl | h
            · exact absurd eu e
            · exact ⟨u, h, eu⟩
          · rintro ⟨u, hu, eu⟩
            exact ⟨u, List.mem_cons_of_mem _ hu, eu⟩
        simp only [this]
theorem cfT_app {ts us : List Tm} {y : Str} (h : ∀ t ∈ ts, t.1 ≠ y) : cfT (ts ++ us) y = cfT us y := by
  induction ts with
  | nil => rfl
  | cons t r ih =>
    rw [List.cons_append, cfT_cons, if_neg (h t (List.mem_cons_self ..))]
    exact ih fun u hu => h u (List.mem_cons_of_mem _ hu)
theorem cfT_app' {ts us : List Tm} {y : Str} (h : ∀ t ∈ us, t.1 ≠ y) : cfT (ts ++ us) y = cfT ts y := by
  induction ts with
  | nil => exact cfT_none h
  | cons t r ih => rw [List.cons_append, cfT_cons, cfT_cons, ih]
theorem cfT_put {ts : List Tm} {x y : Str} {g : Int × Int} : cfT (putTm ts x g) y = if x = y then g else cfT ts y := by
  unfold putTm
  by_cases a : (ts.any fun t => decide (t.1 = x)) = true
  · rw [if_pos a, cfT_map]
    have := any_nm.mp a
    by_cases f : x = y
    · rw [if_pos ⟨f, this⟩, if_pos f]
    · rw [if_neg (fun z => f z.1), if_neg f]
  · rw [if_neg a]
    have no : ∀ t ∈ ts, t.1 ≠ x := fun t ht e => a (any_nm.mpr ⟨t, ht, e⟩)
    by_cases f : x = y
    · subst f
      rw [if_pos rfl, cfT_app no, cfT_cons, if_pos rfl]
    · rw [if_neg f, cfT_app' (fun t ht => by rw [List.mem_singleton.mp ht]; exact f)]
theorem putTm_nodup {ts : List Tm} {x : Str} {g : Int × Int} (nd : (ts.map (·.1)).Nodup) : ((putTm ts x g).map (·.1)).Nodup := by
  rw [putTm_nm]
  split
  · exact nd
  · next h =>
    rw [List.nodup_append]
    refine ⟨nd, by simp, fun a ha b hb e => ?_⟩
    rw [List.mem_singleton.mp hb] at e
    obtain ⟨t, ht, et⟩ := List.mem_map.mp ha
    exact h ⟨t, ht, et.trans e⟩
/-- the sum of two forms' terms -/
def addL (as bs : List Tm) : List Tm := bs.foldl (fun acc t => putTm acc t.1 (pl (cfT acc t.1) t.2)) as
theorem addL_ok {k : Nat} : ∀ {bs as : List Tm}, (as.map (·.1)).Nodup → (bs.map (·.1)).Nodup → (∀ t ∈ as, Sm (2 * k + 1) t.2 ∧ Lowt t.2) → (∀ t ∈ bs, Sm k t.2 ∧ Lowt t.2 ∧ Sm k (cfT as t.1)) →
    ((addL as bs).map (·.1)).Nodup ∧ (∀ t ∈ addL as bs, Sm (2 * k + 1) t.2 ∧ Lowt t.2) ∧ (∀ x, rv (cfT (addL as bs) x) = rv (cfT as x) + rv (cfT bs x)) ∧ ∀ t ∈ addL as bs, (∃ u ∈ as, u.1 = t.1) ∨ ∃ u ∈ bs, u.1 = t.1
  | [], as, na, _, ha, _ => ⟨na, ha, fun x => by
      show rv (cfT as x) = rv (cfT as x) + rv (0, 1)
      rw [rv_01]
      grind, fun t ht => .inl ⟨t, ht, rfl⟩⟩
  | t :: r, as, na, nb, ha, hb => by
    rw [List.map_cons, List.nodup_cons] at nb
    obtain ⟨s1, l1, s2⟩ := hb t (List.mem_cons_self ..)
    have ne : ∀ u ∈ r, t.1 ≠ u.1 := fun u hu e => nb.1 (by rw [e]; exact List.mem_map.mpr ⟨u, hu, rfl⟩)
    have sp := sm_pl s2 s1
    have lp := lw_pl s2.p s1.p
    obtain ⟨c1, c2, c3, c4⟩ := addL_ok (k := k) (bs := r) (as := putTm as t.1 (pl (cfT as t.1) t.2)) (putTm_nodup na) nb.2 (fun u hu => by
      rcases putTm_mem hu with e | h
      · rw [e]
        exact ⟨sp.mono (by omega), lp⟩
      · exact ha u h) (fun u hu => by
      obtain ⟨b1, b2, b3⟩ := hb u (List.mem_cons_of_mem _ hu)
      refine ⟨b1, b2, ?_⟩
      rw [cfT_put, if_neg (ne u hu)]
      exact b3)
    refine ⟨c1, c2, fun x => ?_, fun u hu => ?_⟩
    · show rv (cfT (addL (putTm as t.1 (pl (cfT as t.1) t.2)) r) x) = _
      rw [c3 x, cfT_put, cfT_cons]
      by_cases e : t.1 = x
      · subst e
        rw [if_pos rfl, if_pos rfl, rv_pl s2.p s1.p, cfT_none (ts := r) (fun u hu z => ne u hu z.symm), rv_01]
        grind
      · rw [if_neg e, if_neg e]
    · rcases c4 u hu with ⟨v, hv, ev⟩ | ⟨v, hv, ev⟩
      · rcases putTm_mem hv with e | h
        · rw [e] at ev
          exact .inr ⟨t, List.mem_cons_self .., ev⟩
        · exact .inl ⟨v, h, ev⟩
      · exact .inr ⟨v, List.mem_cons_of_mem _ hv, ev⟩
theorem nodup_le : ∀ {xs ys : List Str}, xs.Nodup → (∀ x ∈ xs, x ∈ ys) → xs.length ≤ ys.length
  | [], _, _, _ => Nat.zero_le _
  | x :: r, ys, nd, h => by
    rw [List.nodup_cons] at nd
    have hx := h x (List.mem_cons_self ..)
    have ih := nodup_le nd.2 (ys := ys.erase x) fun y hy => (List.mem_erase_of_ne (fun z => nd.1 (by rw [← z]; exact hy))).mpr (h y (List.mem_cons_of_mem _ hy))
    rw [List.length_erase_of_mem hx] at ih
    have := List.length_pos_of_mem hx
    rw [List.length_cons]
    omega
theorem len_in {ts : List Tm} {ns : List Str} (nd : (ts.map (·.1)).Nodup) (h : ∀ t ∈ ts, t.1 ∈ ns) : ts.length ≤ ns.length := by
  have z := nodup_le nd (ys := ns) fun x hx => by
    obtain ⟨t, ht, rfl⟩ := List.mem_map.mp hx
    exact h t ht
  rwa [List.length_map] at z
/-- the sum of two forms over the same names -/
theorem add_ok {k : Nat} {ns : List Str} {as bs : List Tm} {f g : Int × Int} (a : TsK k as f) (b : TsK k bs g) (un : ns.length ≤ 6) (sa : ∀ t ∈ as, t.1 ∈ ns) (sb : ∀ t ∈ bs, t.1 ∈ ns) (k0 : 0 < k) :
    TsK (2 * k + 1) (addL as bs) (pl f g) ∧ (∀ x, rv (cfT (addL as bs) x) = rv (cfT as x) + rv (cfT bs x)) ∧ ∀ t ∈ addL as bs, t.1 ∈ ns := by
  have z1 : Sm k (0, 1) := ⟨Nat.pow_pos (by decide), Nat.one_lt_two_pow (by omega), (by decide : (0 : Int) < 1)⟩
  obtain ⟨c1, c2, c3, c4⟩ := addL_ok (k := k) (as := as) (bs := bs) a.u b.u (fun t ht => ⟨(a.s t ht).mono (by omega), (a.s t ht).p, a.g t ht⟩) fun t ht => ⟨b.s t ht, ⟨(b.s t ht).p, b.g t ht⟩, cfT_all (P := Sm k) a.s z1 _⟩
  have inn : ∀ t ∈ addL as bs, t.1 ∈ ns := fun t ht => by
    rcases c4 t ht with ⟨u, hu, e⟩ | ⟨u, hu, e⟩
    · exact e ▸ sa u hu
    · exact e ▸ sb u hu
  refine ⟨⟨fun t ht => ?_, fun t ht => (c2 t ht).1, fun t ht => (c2 t ht).2.g, c1, Nat.le_trans (len_in c1 inn) un, (sm_pl a.fs b.fs).mono (by omega), (lw_pl a.fs.p b.fs.p).g⟩, c3, inn⟩
  rcases c4 t ht with ⟨u, hu, e⟩ | ⟨u, hu, e⟩
  · exact e ▸ a.n u hu
  · exact e ▸ b.n u hu
end Qj
namespace Qj
open PySem PySem.Spec PyProof.Rows L2
def mulL (s : Int × Int) (as : List Tm) : List Tm := as.map fun t => (t.1, ti t.2 s)
theorem mulL_nm {s : Int × Int} {as : List Tm} : (mulL s as).map (·.1) = as.map (·.1) := by
  unfold mulL
  rw [List.map_map]
  rfl
theorem mulL_cf {s : Int × Int} {as : List Tm} (p : ∀ t ∈ as, 0 < t.2.2) (q : 0 < s.2) (x : Str) : rv (cfT (mulL s as) x) = rv (cfT as x) * rv s := by
  induction as with
  | nil =>
    show rv (0, 1) = rv (0, 1) * rv s
    rw [rv_01]
    grind
  | cons t r ih =>
    show rv (cfT ((t.1, ti t.2 s) :: mulL s r) x) = _
    rw [cfT_cons, cfT_cons]
    by_cases e : t.1 = x
    · rw [if_pos e, if_pos e]
      exact rv_ti (p t (List.mem_cons_self ..)) q
    · rw [if_neg e, if_neg e]
      exact ih fun u hu => p u (List.mem_cons_of_mem _ hu)
theorem mul_ok {k j : Nat} {as : List Tm} {f s : Int × Int} (a : TsK k as f) (b : Sm j s) : TsK (k + j + 1) (mulL s as) (ti f s) ∧ (∀ x, rv (cfT (mulL s as) x) = rv (cfT as x) * rv s) ∧ rv (ti f s) = rv f * rv s := by
  refine ⟨⟨fun t ht => ?_, fun t ht => ?_, fun t ht => ?_, by rw [mulL_nm]; exact a.u, by unfold mulL; rw [List.length_map]; exact a.l, sm_ti a.fs b, (lw_ti a.fs.p b.p).g⟩, mulL_cf (fun t ht => (a.s t ht).p) b.p, rv_ti a.fs.p b.p⟩
  all_goals obtain ⟨u, hu, rfl⟩ := List.mem_map.mp ht
  · exact a.n u hu
  · exact sm_ti (a.s u hu) b
  · exact (lw_ti (a.s u hu).p b.p).g
end Qj
namespace Qj
open PySem PySem.Spec PyProof.Rows L2
theorem TsK.take {k : Nat} {ts : List Tm} {f : Int × Int} (h : TsK k ts f) (i : Nat) : TsK k (ts.take i) f := ⟨fun t ht => h.n t (List.mem_of_mem_take ht), fun t ht => h.s t (List.mem_of_mem_take ht), fun t ht => h.g t (List.mem_of_mem_take ht), List.Nodup.sublist (List.Sublist.map _ (List.take_sublist ..)) h.u, Nat.le_trans (List.length_take_le' ..) h.l, h.fs, h.fg⟩
theorem addL_next {as bs : List Tm} {i : Nat} {t : Tm} (h : bs[i]? = some t) : addL as (bs.take (i + 1)) = putTm (addL as (bs.take i)) t.1 (pl (cfT (addL as (bs.take i)) t.1) t.2) := by
  rw [Qj.take_next h]
  unfold addL
  rw [List.foldl_append]
  rfl
end Qj
namespace Qj
open PySem PySem.Spec PyProof.Rows L2
/-! ### forms whose terms may be walked by dict(..) -/
structure FormX (K : PySem.W.Frag) (C D : Addr) (H : Hp) (r : Addr) (us : List Tm) (f : Int × Int) : Prop where
  ob : ∃ dx pt cv xs, H r = some (insF C dx pt cv) ∧ FzT H pt xs ∧ DtA K D H xs (us.map tmD) ∧ Dt K D H cv (frD f)
section
variable {K : PySem.W.Frag} {C D r : Addr} {H H' : Hp} {us : List Tm} {f : Int × Int}
theorem FormX.t (h : FormX K C D H r us f) : FormT K C D H r us f := by
  obtain ⟨dx, pt, cv, xs, a, b, c, d⟩ := h.ob
  exact ⟨dx, pt, cv, a, .tup b.sq c, d⟩
theorem FormX.ex (h : FormX K C D H r us f) (e : Evl.Ex H H') : FormX K C D H' r us f := by
  obtain ⟨dx, pt, cv, xs, a, b, c, d⟩ := h.ob
  exact ⟨dx, pt, cv, xs, e _ _ a, b.ex e, c.ex e, d.ex e⟩
theorem FormX.bu (h : FormX K C D H r us f) (k : DeckAt H D) (e : Bu D H H') : FormX K C D H' r us f := by
  obtain ⟨dx, pt, cv, xs, a, ⟨o, b, od⟩, c, d⟩ := h.ob
  obtain ⟨g, m, n, hD, _⟩ := k
  refine ⟨dx, pt, cv, xs, e _ _ (fun z => ?_) a, ⟨o, e _ _ (fun z => ?_) b, od⟩, c.bu ⟨g, m, n, hD, by assumption⟩ e, d.bu ⟨g, m, n, hD, by assumption⟩ e⟩
  · subst z
    rw [hD] at a
    cases a
  · subst z
    rw [hD] at b
    cases b
theorem Bt.fx {L : Addr} {ys : List V} (e : Bt L H H') (hL : H L = some (.lst ys)) (h : FormX K C D H r us f) : FormX K C D H' r us f := by
  obtain ⟨dx, pt, cv, xs, a, ⟨o, b, od⟩, c, d⟩ := h.ob
  refine ⟨dx, pt, cv, xs, e _ _ (fun z => by subst z; rw [hL] at a; cases a) a, ⟨o, e _ _ (fun z => by subst z; rw [hL] at b; cases b) b, od⟩, ?_, e.dt hL rfl d⟩
  exact DtA.only (fun _ _ h => e.sqT hL h) _ (noLA_of fun d hd => by
    obtain ⟨y, _, rfl⟩ := List.mem_map.mp hd
    rfl) c
end
/-- the laying of a form from right terms -/
def spIniX (K : PySem.W.Frag) (C : Addr) : Sp := fun vs H Q _ => ∃ (D r dx : Addr) (tv cv : V) (k : Nat) (ts : List Tm) (f : Int × Int), vs = [.ref r, tv, cv] ∧ H r = some (.ins C dx []) ∧ Dt K D H tv (.tuple (ts.map tmD)) ∧ Dt K D H cv (frD f) ∧ TsK k ts f ∧
  ∀ (us : List Tm) (H' : Hp), us.Perm (keptT ts) → RiseS us → (∀ a o, a ≠ r → H a = some o → H' a = some o) → FormX K C D H' r us f → Q .non H'
/-- a + b -/
def spAddX (K : PySem.W.Frag) (C : Addr) : Sp := fun vs H Q _ => ∃ (D r1 r2 : Addr) (k : Nat) (ns : List Str) (us ws : List Tm) (f g : Int × Int), vs = [.ref r1, .ref r2] ∧ FormX K C D H r1 us f ∧ FormX K C D H r2 ws g ∧ TsK k us f ∧ TsK k ws g ∧ 0 < k ∧ k ≤ 900 ∧ ns.length ≤ 6 ∧ (∀ t ∈ us, t.1 ∈ ns) ∧ (∀ t ∈ ws, t.1 ∈ ns) ∧
  ∀ (r : Addr) (zs : List Tm) (h : Int × Int) (H' : Hp), FormX K C D H' r zs h → Frm (2 * k + 1) zs h → rv h = rv f + rv g → (∀ x, rv (cfT zs x) = rv (cfT us x) + rv (cfT ws x)) → (∀ t ∈ zs, t.1 ∈ ns) → Evl.Ex H H' → Q (.ref r) H'
/-- a - b -/
def spSubX (K : PySem.W.Frag) (C : Addr) : Sp := fun vs H Q _ => ∃ (D r1 r2 : Addr) (k : Nat) (ns : List Str) (us ws : List Tm) (f g : Int × Int), vs = [.ref r1, .ref r2] ∧ FormX K C D H r1 us f ∧ FormX K C D H r2 ws g ∧ TsK k us f ∧ TsK k ws g ∧ 0 < k ∧ k ≤ 800 ∧ ns.length ≤ 6 ∧ (∀ t ∈ us, t.1 ∈ ns) ∧ (∀ t ∈ ws, t.1 ∈ ns) ∧
  ∀ (r : Addr) (zs : List Tm) (h : Int × Int) (H' : Hp), FormX K C D H' r zs h → Frm (2 * k + 5) zs h → rv h = rv f - rv g → (∀ x, rv (cfT zs x) = rv (cfT us x) - rv (cfT ws x)) → (∀ t ∈ zs, t.1 ∈ ns) → Evl.Ex H H' → Q (.ref r) H'
/-- -a -/
def spNegX (K : PySem.W.Frag) (C : Addr) : Sp := fun vs H Q _ => ∃ (D r1 : Addr) (k : Nat) (us : List Tm) (f : Int × Int), vs = [.ref r1] ∧ FormX K C D H r1 us f ∧ TsK k us f ∧ 0 < k ∧ k ≤ 2000 ∧
  ∀ (r : Addr) (zs : List Tm) (h : Int × Int) (H' : Hp), FormX K C D H' r zs h → Frm (k + 2) zs h → rv h = - rv f → (∀ x, rv (cfT zs x) = - rv (cfT us x)) → (∀ t ∈ zs, ∃ u ∈ us, u.1 = t.1) → Evl.Ex H H' → Q (.ref r) H'
/-- a * s -/
def spMulX (K : PySem.W.Frag) (C : Addr) : Sp := fun vs H Q _ => ∃ (D r1 p : Addr) (k j : Nat) (us : List Tm) (f s : Int × Int), vs = [.ref r1, .ref p] ∧ FormX K C D H r1 us f ∧ FrA K H p s ∧ TsK k us f ∧ Sm j s ∧ Lowt s ∧ 0 < k ∧ k ≤ 2000 ∧ j ≤ 2000 ∧
  ∀ (r : Addr) (zs : List Tm) (h : Int × Int) (H' : Hp), FormX K C D H' r zs h → Frm (k + j + 1) zs h → rv h = rv f * rv s → (∀ x, rv (cfT zs x) = rv (cfT us x) * rv s) → (∀ t ∈ zs, ∃ u ∈ us, u.1 = t.1) → Evl.Ex H H' → Q (.ref r) H'
/-! ### the dict of names and fractions, entry by entry -/
def KvT (K : PySem.W.Frag) (H : Hp) : List (Key × V) → List Tm → Prop := Paired fun kv t => kv.1 = .inr t.1 ∧ ∃ p, kv.2 = .ref p ∧ FrA K H p t.2
section
variable {K : PySem.W.Frag} {H H' : Hp}
theorem KvT.keep {kvs : List (Key × V)} {ts : List Tm} (h : KvT K H kvs ts) (k : ∀ a xs, SqT K H a xs → SqT K H' a xs) : KvT K H' kvs ts := Paired.mapP h fun _ _ ⟨e, p, f, g⟩ => ⟨e, p, f, k _ _ g⟩
theorem KvT.len {kvs : List (Key × V)} {ts : List Tm} (h : KvT K H kvs ts) : kvs.length = ts.length := Paired.length h
theorem KvT.look {kvs : List (Key × V)} {ts : List Tm} (h : KvT K H kvs ts) (x : Str) : (valV kvs (.inr x) = none ∧ cfT ts x = (0, 1)) ∨ ∃ p, valV kvs (.inr x) = some (.ref p) ∧ FrA K H p (cfT ts x) := by
  unfold KvT at h
  induction h with
  | nil => exact .inl ⟨rfl, rfl⟩
  | @cons kv t kr tr h1 h2 ih =>
    obtain ⟨e, p, f, g⟩ := h1
    rw [cfT_cons]
    by_cases z : t.1 = x
    · rw [if_pos z, valV_pos (e.trans (congrArg Sum.inr z))]
      exact .inr ⟨p, congrArg some f, g⟩
    · rw [if_neg z, valV_neg (fun y => z (Sum.inr.inj (e.symm.trans y)))]
      exact ih
theorem paired_map {α β : Type} {F G : α → β → Prop} {f : α → α} {g : β → β} : ∀ {xs : List α} {ys : List β}, Paired F xs ys → (∀ a b, F a b → G (f a) (g b)) → Paired G (xs.map f) (ys.map g)
  | _, _, .nil, _ => .nil
  | _, _, .cons h t, k => .cons (k _ _ h) (paired_map t k)
theorem KvT.any {kvs : List (Key × V)} {ts : List Tm} (h : KvT K H kvs ts) (x : Str) : (kvs.any fun kv => decide (kv.1 = Sum.inr x)) = ts.any fun t => decide (t.1 = x) := by
  unfold KvT at h
  induction h with
  | nil => rfl
  | @cons kv t kr tr h1 h2 ih =>
    rw [List.any_cons, List.any_cons, ih, h1.1]
    congr 1
    by_cases z : t.1 = x
    · rw [decide_eq_true z, decide_eq_true (congrArg Sum.inr z)]
    · rw [decide_eq_false z, decide_eq_false (fun y => z (Sum.inr.inj y))]
theorem KvT.put {kvs : List (Key × V)} {ts : List Tm} {x : Str} {p : Addr} {g : Int × Int} (h : KvT K H kvs ts) (k : ∀ a xs, SqT K H a xs → SqT K H' a xs) (hp : FrA K H' p g) : KvT K H' (putK kvs (.inr x) (.ref p)) (putTm ts x g) := by
  have h' := h.keep k
  unfold putK putTm
  rw [h.any x]
  split
  · refine paired_map h' fun kv t ⟨e, q, f, gg⟩ => ?_
    by_cases z : t.1 = x
    · rw [if_pos z, if_pos (e.trans (congrArg Sum.inr z))]
      exact ⟨e, p, rfl, hp⟩
    · rw [if_neg z, if_neg (fun y => z (Sum.inr.inj (e.symm.trans y)))]
      exact ⟨e, q, f, gg⟩
  · exact Paired.snoc h' ⟨rfl, p, rfl, hp⟩
/-- dict(terms) holds just the terms -/
theorem merge_nodup : ∀ {more kvs : List (Key × V)}, ((kvs ++ more).map (·.1)).Nodup → mergeK kvs more = kvs ++ more
  | [], kvs, _ => by
    rw [List.append_nil]
    rfl
  | p :: r, kvs, nd => by
    show mergeK (putK kvs p.1 p.2) r = _
    have no : valV kvs p.1 = none := by
      cases e : valV kvs p.1 with
      | none => rfl
      | some v =>
        exfalso
        unfold valV at e
        obtain ⟨q, hq, _⟩ := Option.map_eq_some_iff.mp e
        have m := List.mem_of_find?_eq_some hq
        have z := List.find?_some hq
        rw [List.map_append, List.nodup_append] at nd
        exact nd.2.2 q.1 (List.mem_map.mpr ⟨q, m, rfl⟩) p.1 (List.mem_map.mpr ⟨p, List.mem_cons_self .., rfl⟩) (by simpa using z)
    rw [putK_new _ no]
    have e : kvs ++ [(p.1, p.2)] ++ r = kvs ++ p :: r := by rw [List.append_assoc]; rfl
    rw [merge_nodup (by rw [e]; exact nd), e]
/-- a tuple's pairs, as dict(..) takes them -/
theorem terms_pairs {D : Addr} : ∀ {ts : List Tm} {xs : List V}, DtA K D H xs (ts.map tmD) → ∃ (ps : List Addr) (kvs : List (Key × V)), xs = ps.map V.ref ∧ Paired (fun p kv => SqT K H p [kV kv.1, kv.2]) ps kvs ∧ KvT K H kvs ts
  | [], _, .nil => ⟨[], [], rfl, .nil, .nil⟩
  | t :: r, _, .cons h g => by
    obtain ⟨ps, kvs, e, a, b⟩ := terms_pairs g
    obtain ⟨q, ys, rfl, ty, gy⟩ := Dt.tupA h
    obtain ⟨v1, v2, rfl, g1, g2⟩ := two_at gy
    cases g1
    obtain ⟨pf, rfl, hf⟩ := g2.fa
    exact ⟨q :: ps, (.inr t.1, .ref pf) :: kvs, by rw [e]; rfl, .cons ty a, .cons ⟨rfl, pf, rfl, hf⟩ b⟩
theorem items_terms {D : Addr} {kvs : List (Key × V)} : ∀ {ts : List Tm} {as : List Addr}, KvT K H kvs ts → Paired (fun (t : Addr) (z : Key × V) => H t = some (.tup [kV z.1, z.2])) as kvs → DtA K D H (as.map V.ref) (ts.map tmD) := by
  intro ts as h g
  unfold KvT at h
  induction h generalizing as with
  | nil =>
    cases g
    exact .nil
  | @cons kv t kr tr h1 h2 ih =>
    cases g with
    | cons g1 g2 =>
      obtain ⟨e, p, f, hf⟩ := h1
      rw [e, f] at g1
      exact .cons (.tup (SqT.of g1) (.cons (.str _) (.cons (FrA.d hf) .nil))) (ih g2)
theorem KvT.keys {kvs : List (Key × V)} {ts : List Tm} (h : KvT K H kvs ts) (nd : (ts.map (·.1)).Nodup) : (kvs.map (·.1)).Nodup := by
  have e : kvs.map (·.1) = (ts.map (·.1)).map Sum.inr := by
    unfold KvT at h
    induction h with
    | nil => rfl
    | @cons kv t kr tr h1 h2 ih =>
      rw [List.map_cons, List.map_cons, List.map_cons, h1.1]
      rw [List.map_cons, List.nodup_cons] at nd
      rw [ih nd.2]
  rw [e]
  exact List.Pairwise.map _ (fun _ _ h z => h (Sum.inr.inj z)) nd
end
end Qj
namespace Qj
open PySem PySem.Spec PyProof.Rows L2
/-- what is never come to -/
theorem pe_never {X : Cx} {e : Expr} : PE X e (fun _ _ _ => False) := ⟨fun _ _ _ _ _ _ h => h.elim⟩
end Qj
namespace Qj
open PySem PySem.Spec PyProof.Rows L2
/-! ### forms told by what they come to -/
def spValK (K : PySem.W.Frag) (C Miss : Addr) : Sp := fun vs H Q E => ∃ (D r od : Addr) (k j l : Nat) (ts : List Tm) (f : Int × Int) (o : Str → Option (Int × Int)), vs = [.ref r, .ref od] ∧ FormT K C D H r ts f ∧ OpsAt K H od o ∧ ts.length ≤ l ∧ (∀ t ∈ ts, Sm k t.2) ∧ Sm k f ∧ (∀ x g, o x = some g → Sm j g) ∧ 0 < k ∧ k + (k + j + 2) * (l + 1) ≤ 2400 ∧ k + (k + j + 2) * l ≤ 2000 ∧ max k j ≤ 2000 ∧
  (∀ v p H', valF o ts f = .ok v → Evl.Ex H H' → FrA K H' p v → Q (.ref p) H') ∧ (∀ x d H', valF o ts f = .error x → Evl.Ex H H' → H' d = some (.xd [("name", .str x)]) → E (.ref Miss) (some d) H')
/-- factors and constant -/
abbrev CK := (Str → Rat) × Rat
def valR (o : Str → Option (Int × Int)) (ns : List Str) (q : CK) : Rat := q.2 + (ns.map fun x => q.1 x * cz o x).sum
structure MF (K : PySem.W.Frag) (C D : Addr) (ns : List Str) (n : Nat) (H : Hp) (m : Addr) (q : CK) : Prop where
  ob : ∃ zs h, FormX K C D H m zs h ∧ Frm n zs h ∧ (∀ t ∈ zs, t.1 ∈ ns) ∧ (∀ x, rv (cfT zs x) = q.1 x) ∧ rv h = q.2
section
variable {K : PySem.W.Frag} {C D m : Addr} {ns : List Str} {n j : Nat} {H H' : Hp} {q : CK}
theorem MF.mono (h : MF K C D ns n H m q) (hn : n ≤ j) : MF K C D ns j H m q := let ⟨zs, f, a, b, c⟩ := h.ob; ⟨zs, f, a, b.mono hn, c⟩
theorem MF.ex (h : MF K C D ns n H m q) (e : Evl.Ex H H') : MF K C D ns n H' m q := let ⟨zs, f, a, b⟩ := h.ob; ⟨zs, f, a.ex e, b⟩
theorem MF.bu (h : MF K C D ns n H m q) (k : DeckAt H D) (e : Bu D H H') : MF K C D ns n H' m q := let ⟨zs, f, a, b⟩ := h.ob; ⟨zs, f, a.bu k e, b⟩
theorem MF.bt {L : Addr} {ys : List V} (h : MF K C D ns n H m q) (e : Bt L H H') (hL : H L = some (.lst ys)) : MF K C D ns n H' m q := let ⟨zs, f, a, b⟩ := h.ob; ⟨zs, f, e.fx hL a, b⟩
/-- a fraction that comes to q -/
structure DV (K : PySem.W.Frag) (n : Nat) (H : Hp) (d : Addr) (q : Rat) : Prop where
  ob : ∃ v, FrA K H d v ∧ Lowt v ∧ Sm n v ∧ rv v = q
theorem DV.ex {d : Addr} {q : Rat} (h : DV K n H d q) (e : Evl.Ex H H') : DV K n H' d q := let ⟨v, a, b⟩ := h.ob; ⟨v, sqT_ex e a, b⟩
theorem DV.mono {d : Addr} {q : Rat} (h : DV K n H d q) (hn : n ≤ j) : DV K j H d q := let ⟨v, a, b, c, e⟩ := h.ob; ⟨v, a, b, c.mono hn, e⟩
theorem DV.bu {d : Addr} {q : Rat} (h : DV K n H d q) (k : DeckAt H D) (e : Bu D H H') : DV K n H' d q := let ⟨v, a, b⟩ := h.ob; ⟨v, sqT_bu k e a, b⟩
theorem DV.bt {L d : Addr} {ys : List V} {q : Rat} (h : DV K n H d q) (e : Bt L H H') (hL : H L = some (.lst ys)) : DV K n H' d q := let ⟨v, a, b⟩ := h.ob; ⟨v, e.sqT hL a, b⟩
/-- two lists of fractions that come to the same are the same data -/
theorem dv_same {ds : List Addr} {qs : List Rat} (h : Paired (DV K n H) ds qs) : ∃ vs : List (Int × Int), DtA K D H (ds.map V.ref) (vs.map frD) ∧ (∀ v ∈ vs, Lowt v ∧ Sm n v) ∧ vs.map rv = qs := by
  induction h with
  | nil => exact ⟨[], .nil, (fun _ h => nomatch h), rfl⟩
  | @cons d q dr qr h1 h2 ih =>
    obtain ⟨vs, a, b, c⟩ := ih
    obtain ⟨v, x, y, z, w⟩ := h1.ob
    refine ⟨v :: vs, .cons x.d a, fun u hu => ?_, by rw [List.map_cons, w, c]⟩
    rcases List.mem_cons.mp hu with rfl | hu
    · exact ⟨y, z⟩
    · exact b u hu
theorem rvs_inj : ∀ {vs ws : List (Int × Int)}, (∀ v ∈ vs, Lowt v) → (∀ v ∈ ws, Lowt v) → vs.map rv = ws.map rv → vs = ws
  | [], [], _, _, _ => rfl
  | [], _ :: _, _, _, h => by cases h
  | _ :: _, [], _, _, h => by cases h
  | v :: vs, w :: ws, a, b, h => by
    rw [List.map_cons, List.map_cons] at h
    injection h with h1 h2
    rw [rv_inj (a v (List.mem_cons_self ..)) (b w (List.mem_cons_self ..)) h1, rvs_inj (fun u hu => a u (List.mem_cons_of_mem _ hu)) (fun u hu => b u (List.mem_cons_of_mem _ hu)) h2]
end
theorem okd_intB {i : Int} {k : Nat} (h : i.natAbs < 2 ^ k) (h0 : 0 < k) (hk : k ≤ 1900) : Okd (.int i) k 0 := by
  have hl : i.natAbs.log2 < k := PySem.Flt.log2_lt_of h0 h
  refine ⟨?_, ?_, ?_, ?_, ?_⟩
  · simp only [PyData.showable, decide_eq_true_eq]
    omega
  · simp only [PyData.hasDict]
  · simp only [PyData.leavesShort, decide_eq_true_eq]
    show (Str.ofString (toString i)).length ≤ 1001
    have h2 : i.natAbs < 10 ^ 1000 := Nat.lt_of_lt_of_le h (Nat.le_trans (Nat.pow_le_pow_right (by decide) hk) (by decide +kernel))
    have e := int_text_length_le10 (a := i) (k := 1000) (by decide) h2
    rw [PySem.ofString_length]
    exact e
  · simp only [PyData.weight]
    split
    · omega
    · omega
  · simp only [PyData.depth]
    omega
theorem okd_frB {x : Int × Int} {k : Nat} (h1 : x.1.natAbs < 2 ^ k) (h2 : x.2.natAbs < 2 ^ k) (h0 : 0 < k) (hk : k ≤ 1900) : Okd (frD x) (k + 1 + (k + 1 + 0)) (max 0 (max 0 0) + 1) := okd_tup (oka_cons (okd_intB h1 h0 hk) (oka_cons (okd_intB h2 h0 hk) oka_nil))
theorem szd_frB {fs : List (Int × Int)} (h : ∀ f ∈ fs, Sm 1200 f) (l : fs.length ≤ 6) : Szd (.list (fs.map frD)) 16000 60 := szd_list ((szd_tupA (n := 2500) (m := 20) (fun d hd => by
  obtain ⟨f, hf, rfl⟩ := List.mem_map.mp hd
  exact (szd_okd (okd_frB (k := 1200) (h f hf).t (h f hf).b (by decide) (by decide))).mono (by decide) (by decide))).mono (by rw [List.length_map]; omega) (by decide))
/-- the law's own sum of terms -/
def spAllF (K : PySem.W.Frag) : Sp := fun vs H Q _ => ∃ (D p1 p2 F : Addr) (ns : List Str) (as bs : List Tm) (f g : Int × Int) (sg : Int), vs = [.ref p1, .ref p2, .ref F, .int sg] ∧ Dt K D H (.ref p1) (.tuple (as.map tmD)) ∧ Dt K D H (.ref p2) (.tuple (bs.map tmD)) ∧ H F = some (.lst (ns.map V.str)) ∧ TsK 62 as f ∧ TsK 62 bs g ∧ ns.length ≤ 6 ∧ ns.Nodup ∧ (∀ x ∈ ns, Nm x) ∧ (sg = 1 ∨ sg = -1) ∧
  ∀ (us : List Tm) (p : Addr) (H' : Hp), Frm 900 us (0, 1) → (∀ x ∈ ns, rv (cfT us x) = rv (cfT as x) + sg * rv (cfT bs x)) → (∀ t ∈ us, t.1 ∈ ns) → Evl.Ex H H' → Dt K D H' (.ref p) (.tuple (us.map tmD)) → Q (.ref p) H'
end Qj
namespace Qj
open PySem PySem.Spec PyProof.Rows L2
theorem cf_next {ts : List Tm} {i : Nat} {t : Tm} (nd : (ts.map (·.1)).Nodup) (h : ts[i]? = some t) (x : Str) : rv (cfT (ts.take (i + 1)) x) = rv (cfT (ts.take i) x) + if t.1 = x then rv t.2 else 0 := by
  rw [Qj.take_next h]
  by_cases e : t.1 = x
  · have no : ∀ u ∈ ts.take i, u.1 ≠ x := fun u hu z => by
      obtain ⟨j, hj⟩ := List.mem_iff_getElem?.mp hu
      have lj := (List.getElem?_eq_some_iff.mp hj).1
      rw [List.length_take] at lj
      rw [List.getElem?_take_of_lt (by omega)] at hj
      have a1 : (ts.map (·.1))[j]? = some x := by rw [List.getElem?_map, hj]; exact congrArg some z
      have a2 : (ts.map (·.1))[i]? = some x := by rw [List.getElem?_map, h]; exact congrArg some e
      have := (List.getElem?_inj (by rw [List.length_map]; omega) nd).mp (a1.trans a2.symm)
      omega
    rw [if_pos e, cfT_app no, cfT_cons, if_pos e, cfT_none no, rv_01]
    grind
  · rw [if_neg e, cfT_app' (fun u hu => by rw [List.mem_singleton.mp hu]; exact e)]
    grind
theorem sgn_fr {x : Int × Int} {k : Nat} {sg : Int} (h : Sm k x) (hs : sg = 1 ∨ sg = -1) : Sm k (sg * x.1, x.2) ∧ rv (sg * x.1, x.2) = sg * rv x := by
  refine ⟨⟨?_, h.b, h.p⟩, ?_⟩
  · have : (sg * x.1).natAbs = x.1.natAbs := by
      rcases hs with rfl | rfl
      · rw [Int.one_mul]
      · rw [Int.neg_mul, Int.one_mul, Int.natAbs_neg]
    show (sg * x.1).natAbs < 2 ^ k
    rw [this]
    exact h.t
  · unfold rv
    have := cast_pos h.p
    simp only [Rat.intCast_mul]
    grind
/-- terms whose names are given: what they come to -/
theorem named_ok {ns : List Str} {ts : List Tm} {c : Str → Rat} {n : Nat} (e : ts.map (·.1) = ns) (un : ns.Nodup) (hn : ∀ x ∈ ns, Nm x) (l6 : ns.length ≤ 6) (h : ∀ t ∈ ts, Sm n t.2 ∧ Lowt t.2 ∧ rv t.2 = c t.1) (n2 : 0 < n) : TsK n ts (0, 1) ∧ (∀ x ∈ ns, rv (cfT ts x) = c x) ∧ ∀ t ∈ ts, t.1 ∈ ns := by
  have inn : ∀ t ∈ ts, t.1 ∈ ns := fun t ht => by rw [← e]; exact List.mem_map.mpr ⟨t, ht, rfl⟩
  have nd : (ts.map (·.1)).Nodup := by rw [e]; exact un
  refine ⟨⟨fun t ht => hn _ (inn t ht), fun t ht => (h t ht).1, fun t ht => (h t ht).2.1.g, nd, by rw [← e, List.length_map] at l6; exact l6, ⟨Nat.pow_pos (by decide), Nat.one_lt_two_pow (by omega), (by decide : (0 : Int) < 1)⟩, by decide⟩, fun x hx => ?_, inn⟩
  rw [← e] at hx
  obtain ⟨t, ht, rfl⟩ := List.mem_map.mp hx
  rw [cfT_mem nd ht, (h t ht).2.2]
end Qj
namespace Qj
open PySem PySem.Spec PyProof.Rows L2
def cT (ts : List Tm) : Str → Rat := fun x => rv (cfT ts x)
def cks5 (ts us : List Tm) (f g s : Int × Int) : List CK := [(fun x => cT ts x + cT us x, rv f + rv g), (fun x => cT ts x - cT us x, rv f - rv g), (fun x => - cT ts x, - rv f), (fun x => cT ts x * rv s, rv f * rv s), (fun x => cT us x * rv s, rv g * rv s)]
def ck6 (ts : List Tm) (f s : Int × Int) : CK := (fun x => cT ts x * rv s * rv s * rv s, rv f * rv s * rv s * rv s)
section
variable {o : Str → Option (Int × Int)} {ns : List Str} {a b : CK}
theorem valR_add : valR o ns (fun x => a.1 x + b.1 x, a.2 + b.2) = valR o ns a + valR o ns b := by
  unfold valR
  have e : (fun x => (a.1 x + b.1 x) * cz o x) = fun x => a.1 x * cz o x + b.1 x * cz o x := by
    funext x
    grind
  dsimp only
  rw [e, sum_add]
  grind
theorem valR_mul {s : Rat} : valR o ns (fun x => a.1 x * s, a.2 * s) = valR o ns a * s := by
  unfold valR
  have e : (fun x => a.1 x * s * cz o x) = fun x => s * (a.1 x * cz o x) := by
    funext x
    grind
  dsimp only
  rw [e, sum_mul]
  grind
theorem valR_neg : valR o ns (fun x => - a.1 x, - a.2) = - valR o ns a := by
  have h := valR_mul (o := o) (ns := ns) (a := a) (s := -1)
  have e1 : (fun x => a.1 x * -1) = fun x => - a.1 x := by
    funext x
    grind
  have e2 : a.2 * -1 = - a.2 := by grind
  rw [e1, e2] at h
  rw [h]
  grind
theorem valR_sub : valR o ns (fun x => a.1 x - b.1 x, a.2 - b.2) = valR o ns a - valR o ns b := by
  have h1 := valR_neg (o := o) (ns := ns) (a := b)
  have h2 := valR_add (o := o) (ns := ns) (a := a) (b := (fun x => - b.1 x, - b.2))
  have e1 : (fun x => a.1 x + - b.1 x) = fun x => a.1 x - b.1 x := by
    funext x
    grind
  have e2 : a.2 + - b.2 = a.2 - b.2 := by grind
  dsimp only at h2
  rw [e1, e2, h1] at h2
  rw [h2]
  grind
theorem valR_terms {ts : List Tm} {f : Int × Int} (un : ns.Nodup) (nd : (ts.map (·.1)).Nodup) (sub : ∀ t ∈ ts, t.1 ∈ ns) : rv f + lin (cz o) ts = valR o ns (cT ts, rv f) := by
  rw [lin_over un (cz o) nd sub]
  rfl
end
theorem cks5_val {o : Str → Option (Int × Int)} {ns : List Str} {ts us : List Tm} {f g s : Int × Int} : (cks5 ts us f g s).map (valR o ns) = [valR o ns (cT ts, rv f) + valR o ns (cT us, rv g), valR o ns (cT ts, rv f) - valR o ns (cT us, rv g), - valR o ns (cT ts, rv f), valR o ns (cT ts, rv f) * rv s, valR o ns (cT us, rv g) * rv s] := by
  unfold cks5
  have h1 := valR_add (o := o) (ns := ns) (a := (cT ts, rv f)) (b := (cT us, rv g))
  have h2 := valR_sub (o := o) (ns := ns) (a := (cT ts, rv f)) (b := (cT us, rv g))
  have h3 := valR_neg (o := o) (ns := ns) (a := (cT ts, rv f))
  have h4 := valR_mul (o := o) (ns := ns) (a := (cT ts, rv f)) (s := rv s)
  have h5 := valR_mul (o := o) (ns := ns) (a := (cT us, rv g)) (s := rv s)
  simp only [List.map_cons, List.map_nil, h1, h2, h3, h4, h5]
theorem ck6_val {o : Str → Option (Int × Int)} {ns : List Str} {ts : List Tm} {f s : Int × Int} : valR o ns (ck6 ts f s) = valR o ns (cT ts, rv f) * rv s * rv s * rv s := by
  unfold ck6
  have h1 := valR_mul (o := o) (ns := ns) (a := (cT ts, rv f)) (s := rv s)
  have h2 := valR_mul (o := o) (ns := ns) (a := (fun x => cT ts x * rv s, rv f * rv s)) (s := rv s)
  have h3 := valR_mul (o := o) (ns := ns) (a := (fun x => cT ts x * rv s * rv s, rv f * rv s * rv s)) (s := rv s)
  dsimp only at h1 h2 h3
  rw [h3, h2, h1]
/-- a form's value at operands for all its names -/
theorem MF.value {ns : List Str} {o : Str → Option (Int × Int)} {zs : List Tm} {h : Int × Int} {q : CK} {n : Nat} (un : ns.Nodup) (fm : Frm n zs h) (sub : ∀ t ∈ zs, t.1 ∈ ns) (ec : ∀ x, rv (cfT zs x) = q.1 x) (eh : rv h = q.2) (ho : ∀ x g, o x = some g → 0 < g.2) : rv (valL o zs h) = valR o ns q ∧ Lowt (valL o zs h) := by
  have e := rv_valL ho (ts := zs) (f := h) fm.lowf.p (fun t ht => (fm.low t ht).p)
  refine ⟨?_, valL_low ho fm.lowf (fun t ht => (fm.low t ht).p)⟩
  rw [e, valR_terms un fm.t.u sub]
  unfold valR
  have e2 : cT zs = q.1 := funext ec
  rw [e2, eh]
end Qj
namespace Qj
open PySem PySem.Spec PyProof.Rows L2
theorem OpsD.ex' {K : PySem.W.Frag} {H H' : Hp} {od : Addr} {o : Str → Option (Int × Int)} {n : Nat} (h : OpsD K H od o n) (e : Evl.Ex H H') : OpsD K H' od o n := by
  obtain ⟨kvs, a, b, c, d, f⟩ := h.ex
  refine ⟨kvs, e _ _ a, b, c, d, fun x => ⟨(f x).1, fun g hg => ?_⟩⟩
  obtain ⟨p, u, v⟩ := (f x).2 g hg
  exact ⟨p, u, sqT_ex e v⟩
theorem MF.of {K : PySem.W.Frag} {C D r : Addr} {H : Hp} {ns : List Str} {n : Nat} {ts us : List Tm} {f : Int × Int} (tk : TsK n ts f) (p : us.Perm (keptT ts)) (ru : RiseS us) (sub : ∀ t ∈ ts, t.1 ∈ ns) (fx : FormX K C D H r us f) : MF K C D ns n H r (cT ts, rv f) :=
  ⟨us, f, fx, Frm.of tk p ru, fun t ht => sub t (List.mem_filter.mp (p.mem_iff.mp ht)).1, fun x => rv_kept tk.u (fun t ht => (tk.s t ht).p) p x, rfl⟩
end Qj
namespace Qj
open PySem PySem.Spec PyProof.Rows L2
theorem sm_valL {o : Str → Option (Int × Int)} {k j : Nat} (ho : ∀ x g, o x = some g → Sm j g) : ∀ {ts : List Tm} {m : Nat} {f : Int × Int}, Sm m f → (∀ t ∈ ts, Sm k t.2) → Sm (m + (k + j + 2) * ts.length) (valL o ts f)
  | [], m, f, h, _ => h.mono (by omega)
  | t :: r, m, f, h, ht => by
    have st := ht t (List.mem_cons_self ..)
    have s1 : Sm (m + (k + j + 2)) (vstep o f t) := by
      unfold vstep
      split
      · next y e => exact (sm_pl h (sm_ti st (ho _ _ e))).mono (by omega)
      · exact h.mono (by omega)
    refine (sm_valL ho (ts := r) s1 fun u hu => ht u (List.mem_cons_of_mem _ hu)).mono ?_
    rw [List.length_cons, Nat.mul_succ]
    omega
/-- the value of drawn terms -/
theorem DV.val {K : PySem.W.Frag} {H : Hp} {p : Addr} {ns : List Str} {o : Str → Option (Int × Int)} {ts : List Tm} {f v : Int × Int} (un : ns.Nodup) (tk : TsK 62 ts f) (sub : ∀ t ∈ ts, t.1 ∈ ns) (l5 : ts.length ≤ 4) (al : ∀ x ∈ ns, (o x).isSome) (hs : ∀ x g, o x = some g → Sm 62 g) (e : valF o ts f = .ok v) (h : FrA K H p v) : DV K 566 H p (valR o ns (cT ts, rv f)) := by
  rw [valF_all fun t ht => al _ (sub t ht)] at e
  cases e
  have po : ∀ x g, o x = some g → 0 < g.2 := fun x g h => (hs x g h).p
  have pt : ∀ t ∈ ts, 0 < t.2.2 := fun t ht => (tk.s t ht).p
  refine ⟨_, h, valL_low po ⟨tk.fs.p, tk.fg⟩ pt, (sm_valL hs tk.fs tk.s).mono ?_, ?_⟩
  · have := Nat.mul_le_mul_left (62 + 62 + 2) l5
    omega
  · rw [rv_valL po tk.fs.p pt, valR_terms un tk.u sub]
end Qj
namespace Qj
open PySem PySem.Spec PyProof.Rows L2
theorem OpsD.bt {K : PySem.W.Frag} {H H' : Hp} {od L : Addr} {ys : List V} {o : Str → Option (Int × Int)} {n : Nat} (h : OpsD K H od o n) (e : Bt L H H') (hL : H L = some (.lst ys)) : OpsD K H' od o n := by
  obtain ⟨kvs, a, b, c, d, f⟩ := h.ex
  refine ⟨kvs, e _ _ (fun z => by subst z; rw [hL] at a; cases a) a, b, c, d, fun x => ⟨(f x).1, fun g hg => ?_⟩⟩
  obtain ⟨p, u, v⟩ := (f x).2 g hg
  exact ⟨p, u, e.sqT hL v⟩
end Qj
namespace Qj
open PySem PySem.Spec PyProof.Rows L2
theorem paired_cons {α β : Type} {F : α → β → Prop} {xs : List α} {y : β} {ys : List β} (h : Paired F xs (y :: ys)) : ∃ x r, xs = x :: r ∧ F x y ∧ Paired F r ys := by
  cases h with
  | cons a b => exact ⟨_, _, rfl, a, b⟩
theorem paired_nil {α β : Type} {F : α → β → Prop} {xs : List α} (h : Paired F xs ([] : List β)) : xs = [] := by
  cases h
  rfl
theorem szd_trm {us : List Tm} {k : Nat} (hn : ∀ t ∈ us, Nm t.1) (hs : ∀ t ∈ us, Sm k t.2) (k0 : 0 < k) (hk : k ≤ 1900) (l : us.length ≤ 6) : Szd (.tuple (us.map tmD)) (6 * (2 * k + 20)) 20 := (szd_tupA (n := 2 * k + 19) (m := 19) (fun d hd => by
  obtain ⟨t, ht, rfl⟩ := List.mem_map.mp hd
  exact (szd_tup2 (szd_nm (hn t ht)) (szd_okd (okd_frB (k := k) (hs t ht).t (hs t ht).b k0 hk))).mono (by omega) (by omega))).mono (by rw [List.length_map]; exact Nat.mul_le_mul l (by omega)) (by decide)
theorem Frm.szd {k : Nat} {us : List Tm} {f : Int × Int} (h : Frm k us f) (k0 : 0 < k) (hk : k ≤ 1900) : Szd (.tuple (us.map tmD)) (6 * (2 * k + 20)) 20 := szd_trm h.t.n h.t.s k0 hk h.t.l
theorem szd_frK {f : Int × Int} {k : Nat} (h : Sm k f) (k0 : 0 < k) (hk : k ≤ 1900) : Szd (frD f) (2 * k + 4) 2 := (szd_okd (okd_frB (k := k) h.t h.b k0 hk)).mono (by omega) (by decide)
/-- no dict in terms and fractions -/
theorem nd_cons {d : PyData} {ds : List PyData} (h : d.hasDict = false) (g : PyData.hasDictAll ds = false) : PyData.hasDictAll (d :: ds) = false := by
  simp only [PyData.hasDictAll, h, g, Bool.or_false]
theorem nd_tup {ds : List PyData} (g : PyData.hasDictAll ds = false) : (PyData.tuple ds).hasDict = false := by
  simp only [PyData.hasDict, g]
theorem nd_list {ds : List PyData} (g : PyData.hasDictAll ds = false) : (PyData.list ds).hasDict = false := by
  simp only [PyData.hasDict, g]
theorem nd_no {d : PyData} (h : d.hasDict = false) : d.hasDict = true → noLs d = true := fun z => absurd (h.symm.trans z) (by decide)
theorem szd_lstA {ds : List PyData} {n m : Nat} (h : ∀ d ∈ ds, Szd d n m) (hn : ds.length * (n + 1) ≤ 16000) (hm : m + 1 ≤ 60) : Szd (.list ds) 16000 60 := szd_list ((szd_tupA h).mono hn hm)
end Qj
namespace Qj
open PySem PySem.Spec PyProof.Rows L2
theorem nd_nil : PyData.hasDictAll [] = false := by simp only [PyData.hasDictAll]
end Qj
namespace Qj
open PySem PySem.Spec PyProof.Rows L2
/-! ### {e for x in xs for y in ys}, no tests -/
abbrev Set2 (el t1 j1 t2 j2 : Expr) (sc : Scope) (ps : PySem.Pos) : Expr := .SetComp el [⟨t1, j1, [], 0⟩, ⟨t2, j2, [], 0⟩] sc ps
section
variable (el t1 j1 t2 j2 : Expr) (sc : Scope) (ps : PySem.Pos) (itv av : Value) (en : Env)
theorem set2_far : compTurn (Set2 el t1 j1 t2 j2 sc ps) 0 itv av en = (do
    standAt j1.pos
    match ← pyNext itv with
    | none => pure (.done .next)
    | some z =>
      letOwnedTupleGo t1 itv z
      assign t1 en z
      let zs ← eval j2 en
      standAt j2.pos
      let zs ← foldedSetIterable j2 en zs
      let _ ← runOwn (.compStart (Set2 el t1 j1 t2 j2 sc ps) 1 (← holding [zs] (pyIter zs)) av en) en
      again (.compLoop (Set2 el t1 j1 t2 j2 sc ps) 0 itv av en)) := by rfl
theorem set2_near : compTurn (Set2 el t1 j1 t2 j2 sc ps) 1 itv av en = (do
    standAt j2.pos
    match ← pyNext itv with
    | none => pure (.done .next)
    | some z =>
      letOwnedTupleGo t2 itv z
      assign t2 en z
      (do let y ← eval el en; standAt el.pos; let _ ← call (.builtin "set.add") [av, y])
      again (.compLoop (Set2 el t1 j1 t2 j2 sc ps) 1 itv av en)) := by rfl
end
section
variable {prog : Program} {w : World} {A : Around} {R : Result → Shared → Prop} {s : Shared} {el t1 j1 t2 j2 : Expr} {sc : Scope} {ps : PySem.Pos} {itv av : Value} {en : Env}
/-- what an error of a block comes to -/
abbrev Er2 (prog : Program) (w : World) (A : Around) (en : Env) (R : Result → Shared → Prop) : Value → Shared → Prop := notedBy (model prog w) A en fun x t => R (.error x) t
/-- a turn told to be less -/
abbrev Less2 (I : Nat → Shared → Prop) (n : Nat) : Shared → Prop := fun t => ∃ k, k < n ∧ I k t
theorem set2_loop1 (fold : ∀ x, foldedSetIterable j2 en x = pure x) (I : Nat → Shared → Prop)
    (turn : ∀ k t, I k t → wpAny (model prog w) A (pyNext itv) (fun r ta => match r with
      | none => R (.ok .next) ta
      | some z => wpAny (model prog w) A (letOwnedTupleGo t1 itv z) (fun _ tb => wpAny (model prog w) A (assign t1 en z) (fun _ tc =>
          wpAny (model prog w) A (eval j2 en) (fun zs td => wpAny (model prog w) A (pyIter zs) (fun it2 te => codeAny (model prog w) A (.compStart (Set2 el t1 j1 t2 j2 sc ps) 1 it2 av en) (fun r tf => match r with
            | .ok _ => Less2 I k tf
            | .error _ => False) te) (Er2 prog w A en R) td) (Er2 prog w A en R) tc) (Er2 prog w A en R) tb) (Er2 prog w A en R) ta) (Er2 prog w A en R) t)
    (n : Nat) (h : I n s) : codeAny (model prog w) A (.compLoop (Set2 el t1 j1 t2 j2 sc ps) 0 itv av en) R s := by
  refine codeAny_loop rfl I (fun k t hk => ?_) n h
  show wpAny _ A (Sem.onRaise (compTurn (Set2 el t1 j1 t2 j2 sc ps) 0 itv av en) _) _ _ t
  refine wpAny_noted ?_
  rw [set2_far]
  refine wpAny_bind (wpAny_standAt (wpAny_bind (wpAny_mono (turn k t hk) (fun r ta ha => ?_) fun _ _ z => z)))
  cases r with
  | none => exact wpAny_pure ha
  | some z =>
    refine wpAny_bind (wpAny_mono ha (fun _ tb hb => wpAny_bind (wpAny_mono hb (fun _ tc hc => wpAny_bind (wpAny_mono hc (fun zs td hd => ?_) fun _ _ z => z)) fun _ _ z => z)) fun _ _ z => z)
    refine wpAny_bind (wpAny_standAt (wpAny_bind (wpAny_of_eq (fold zs) (wpAny_bind (wpAny_holding (wpAny_mono hd (fun it2 te he => wpAny_bind (wpAny_runOwn ?_)) fun _ _ z => z))))))
    rw [Around.mark_none]
    refine codeAny_mono he fun r tf hr => ?_
    cases r with
    | error x => exact hr.elim
    | ok f =>
      first
        | exact wpAny_pure ⟨rfl, hr⟩
        | exact wpAny_bind (wpAny_pure (wpAny_pure ⟨rfl, hr⟩))
theorem set2_loop2 (I : Nat → Shared → Prop)
    (turn : ∀ k t, I k t → wpAny (model prog w) A (pyNext itv) (fun r ta => match r with
      | none => R (.ok .next) ta
      | some z => wpAny (model prog w) A (letOwnedTupleGo t2 itv z) (fun _ tb => wpAny (model prog w) A (assign t2 en z) (fun _ tc =>
          wpAny (model prog w) A (eval el en) (fun y td => wpAny (model prog w) A (call (.builtin "set.add") [av, y]) (fun _ te => Less2 I k te) (Er2 prog w A en R) td) (Er2 prog w A en R) tc) (Er2 prog w A en R) tb) (Er2 prog w A en R) ta) (Er2 prog w A en R) t)
    (n : Nat) (h : I n s) : codeAny (model prog w) A (.compLoop (Set2 el t1 j1 t2 j2 sc ps) 1 itv av en) R s := by
  refine codeAny_loop rfl I (fun k t hk => ?_) n h
  show wpAny _ A (Sem.onRaise (compTurn (Set2 el t1 j1 t2 j2 sc ps) 1 itv av en) _) _ _ t
  refine wpAny_noted ?_
  rw [set2_near]
  refine wpAny_bind (wpAny_standAt (wpAny_bind (wpAny_mono (turn k t hk) (fun r ta ha => ?_) fun _ _ z => z)))
  cases r with
  | none => exact wpAny_pure ha
  | some z =>
    refine wpAny_bind (wpAny_mono ha (fun _ tb hb => wpAny_bind (wpAny_mono hb (fun _ tc hc => ?_) fun _ _ z => z)) fun _ _ z => z)
    exact wpAny_bind (wpAny_bind (wpAny_mono hc (fun y td hd => wpAny_bind (wpAny_standAt (wpAny_bind (wpAny_mono hd (fun _ te he => wpAny_pure (wpAny_pure ⟨rfl, he⟩)) fun _ _ z => z)))) fun _ _ z => z))
/-- the second for's start -/
theorem set2_start (now : codeAny (model prog w) A (.compLoop (Set2 el t1 j1 t2 j2 sc ps) 1 itv av en) R s)
    (anew : wpAny (model prog w) A (pyIter itv) (fun it2 t => codeAny (model prog w) A (.compLoop (Set2 el t1 j1 t2 j2 sc ps) 1 it2 av en) R t) (Er2 prog w A en R) s) :
    codeAny (model prog w) A (.compStart (Set2 el t1 j1 t2 j2 sc ps) 1 itv av en) R s := by
  refine codeAny_of_tree ?_
  show wpAny _ _ (Sem.onRaise (compStart (Set2 el t1 j1 t2 j2 sc ps) 1 itv av en) _) _ _ s
  refine wpAny_notedAt ?_
  unfold compStart
  show wpAny _ _ (ask >>= _) _ _ s
  refine wpAny_bind (wpAny_askSetting (wpAny_ite ?_))
  split
  · first
      | exact wpAny_pure ⟨rfl, now⟩
      | exact wpAny_bind (wpAny_pure (wpAny_pure ⟨rfl, now⟩))
  · refine wpAny_bind (wpAny_rule ?_)
    show wpAny _ _ (standAt j2.pos >>= _) _ _ s
    exact wpAny_bind (wpAny_standAt (wpAny_bind (wpAny_mono anew (fun it2 t q => wpAny_pure ⟨rfl, q⟩) fun _ _ z => z)))
end
/-- what a turn of the inner for asks -/
def inK (P : Program) (w : World) (te : TE) (vs : List Nat) (D : Addr) (Nx : Hp → Prop) (σ1 σ2 : L2.St) (G : Hp) : Prop :=
  wipe σ2 vs = wipe σ1 vs ∧ te σ2 G fun y G2 => ∃ (k : Key) (S : Key → Bool) (n : Nat), y = kV k ∧ G2 D = some (SetTO P w D S n) ∧ n + 1 < scanBound ∧ Nx (upd G2 D (SetTO P w D (kIn S k) (kNum S n k)))
/-- the inner for, from which Nx is come to -/
def forK (P : Program) (w : World) (wi : TI) (g : TG) (te : TE) (vs : List Nat) (D : Addr) (Nx : Hp → Prop) (σ2 : L2.St) (G : Hp) : Prop := wi σ2 G fun J G3 => ∃ W : Nat → Nat → Hp → Prop, (∃ m, W 0 m G3) ∧
  ∀ j k G, W j k G → (J.stop j G ∧ Nx G) ∨ (J.go j G ∧ ∃ Ny : Hp → Prop, (∀ G', Ny G' → ∃ k', k' < k ∧ W (j + 1) k' G') ∧ ∀ y G', J.yld j G y G' → g y (wipe σ2 vs) G' (inK P w te vs D Ny σ2))
def walk2K (P : Program) (w : World) (g : TG) (wi2 : TI) (g2 : TG) (te : TE) (vs vs2 : List Nat) (σ : L2.St) (J : It) (D : Addr) (Qd : Hp → Prop) (G0 : Hp) : Prop :=
  ∃ W : Nat → Nat → Hp → Prop, (∃ m, W 0 m (upd G0 D (SetTO P w D (fun _ => false) 0))) ∧ ∀ i m G, W i m G → (J.stop i G ∧ Qd G) ∨ (J.go i G ∧ ∃ Nx : Hp → Prop, (∀ G', Nx G' → ∃ m', m' < m ∧ W (i + 1) m' G') ∧
    ∀ x G', J.yld i G x G' → g x (wipe σ vs) G' fun σ2 G2 => wipe σ2 vs = wipe σ vs ∧ forK P w wi2 g2 te vs2 D Nx σ2 G2)
def tSk2 (P : Program) (w : World) (wi : TI) (g : TG) (wi2 : TI) (g2 : TG) (te : TE) (vs vs2 : List Nat) : TE := fun σ H Q => wi σ H fun J H1 => ∀ D, H1 D = none → walk2K P w g wi2 g2 te vs vs2 σ J D (fun G => Q (.ref D) G) H1
section
variable {X : Cx}
theorem sk2_core {pins : List (Addr × Obj)} {s : Shared} {σ : L2.St} {H : Hp} {Q : VK} {el t1 j1 t2 j2 : Expr} {sc : Scope} {own : List (PySem.Str × Nat)} {vs2 : List Nat} {ps p2 : PySem.Pos} {wi wi2 : TI} {g g2 : TG} {te : TE} {use : Option (Value → Sem Unit)} {Qf : Value → Shared → Prop}
    (hc : X.calm = true) (nd : X.N.Nodup) (I : Inv X pins σ H s) (hi : PI X t1 j1 wi) (ok : BlkOk X.N X.env.scope sc own) (hv : ∀ i ∈ vs2, i ∈ own.map (·.2)) (bg : BlkAll X sc fun Y => PG Y t1 g) (bi : BlkAll X sc fun Y => PI Y t2 j2 wi2) (bg2 : BlkAll X sc fun Y => PG Y t2 g2) (be : BlkAll X sc fun Y => PE Y el te)
    (fold : ∀ x, foldedSetIterable j1 X.env x = pure x) (fold2 : ∀ en x, foldedSetIterable j2 en x = pure x) (h : tSk2 X.prog X.w wi g wi2 g2 te (own.map (·.2)) vs2 σ H Q)
    (out : ∀ D C s' m G, Inv X pins σ G s' → Q (.ref D) G → s'.heap.Ns C m → FpOk X pins G C → compPost (model X.prog X.w) X.A X.xe use Qf (.ref D) C (.ok .next) s') :
    wpAny (model X.prog X.w) X.A (comprehension (Set2 el t1 j1 t2 j2 sc ps) sc X.env p2 (newSet (.type "set")) false (eval j1 X.env) use) Qf X.xe s := by
  have frees : ∀ y ∈ sc.names, y.2 = .free → ∃ c, X.env.cells.lookup y.1 = some c := fun y hy e => (ok.free y hy e).elim (fun z => I.ok.has _ (.inl z)) (fun z => I.ok.has _ (.inr z))
  refine wpAny_comprehension_free (use := use) rfl fold (closure_ok frees) ok.kind (fun y hy e => by rw [ok.uniq y hy, e]) (thn (hi.run pins s σ H _ I h) fun _ _ h1 => thn h1 fun _ s2 h2 => ?_)
  obtain ⟨ia, fp, tn, J, H2, rfl, I2, T, st2, f2, q⟩ := h2
  refine PpSet.newSet_ok (newEnv_comp ?_)
  generalize hD : s2.heap.objs.size = D
  obtain ⟨W, ⟨m0, w0⟩, turn⟩ := q D (I2.hok.fresh (Nat.le_of_eq hD))
  generalize hs3 : ({ s2 with heap := s2.heap.push { cls := .type "set", dict := none, data := .set #[] 0 (.fresh 0 0 (!X.w.params.followText "set-order")) } } : Shared) = s3
  have h3 : s3.heap = s2.heap.push { cls := .type "set", dict := none, data := .set #[] 0 (.fresh 0 0 (!X.w.params.followText "set-order")) } := by rw [← hs3]
  have empty : SetG (KF (mixKind X.prog X.w) fun _ => false) X.w s3.heap D 0 := by
    rw [h3, ← hD]
    exact setG_fresh s2.heap
  generalize hH3 : upd H2 D (SetTO X.prog X.w D (fun _ => false) 0) = H3 at w0
  have I3 : Inv X pins σ H3 s3 := by
    rw [← hH3]
    have z := I2.laid (t' := s2.toks) (a := D) (o := SetTO X.prog X.w D (fun _ => false) 0) (h' := s3.heap) (fun b o e => by rw [h3]; exact Heap.get?_push_of_some _ e) (Nat.le_of_eq hD) (setT_new empty)
    rw [← hs3] at z ⊢
    exact z
  have at2 : ∀ b ∈ fp, b < s2.heap.objs.size := fun b hb => by
    obtain ⟨o, e, _⟩ := T.obj _ _ st2 b hb
    exact Heap.lt_size e
  have f3 : ∀ b ∈ fp, FpOk X pins H3 b ∧ b < s3.heap.objs.size := fun b hb => by
    have lt := at2 b hb
    refine ⟨⟨?_, (f2 b hb).2⟩, by rw [h3, Heap.size_push]; exact Nat.lt_succ_of_lt lt⟩
    rw [← hH3, upd_ne (by rw [← hD]; exact Nat.ne_of_lt lt)]
    exact (f2 b hb).1
  have st3 : tn 0 s3.heap := T.keep _ _ _ st2 fun b _ o e => by
    rw [h3]
    exact Heap.get?_push_of_some _ e
  have I4 := block_start I3 ok nd f3
  have gg := bg s3 H3 s3.heap.objs.size (cellsFrom (s3.heap.objs.size + 1) sc.names (cloFrom X.env.cells sc.names [])) fp
  have gi := bi s3 H3 s3.heap.objs.size (cellsFrom (s3.heap.objs.size + 1) sc.names (cloFrom X.env.cells sc.names [])) fp
  have gg2 := bg2 s3 H3 s3.heap.objs.size (cellsFrom (s3.heap.objs.size + 1) sc.names (cloFrom X.env.cells sc.names [])) fp
  have ge := be s3 H3 s3.heap.objs.size (cellsFrom (s3.heap.objs.size + 1) sc.names (cloFrom X.env.cells sc.names [])) fp
  show codeAny _ _ (.compStart (Set2 el t1 j1 t2 j2 sc ps) 0 (.ref ia) (.ref D) (compEnvC sc (cellsFrom (s3.heap.objs.size + 1) sc.names (cloFrom X.env.cells sc.names [])) s3.heap.objs.size X.env)) (compPost (model X.prog X.w) X.A X.xe use Qf (.ref D) s3.heap.objs.size)
    { s3 with heap := pushCells (s3.heap.push { cls := .type "dict", data := .dict #[] }) sc.names }
  generalize hce : compEnvC sc (cellsFrom (s3.heap.objs.size + 1) sc.names (cloFrom X.env.cells sc.names [])) s3.heap.objs.size X.env = ce at I4 gg gi gg2 ge ⊢
  have cL : ce.locals = s3.heap.objs.size := by rw [← hce]; rfl
  generalize hs4 : ({ s3 with heap := pushCells (s3.heap.push { cls := .type "dict", data := .dict #[] }) sc.names } : Shared) = s4 at I4 ⊢
  have st4 : tn 0 s4.heap := T.keep _ _ _ st3 fun b _ o e => by
    rw [← hs4]
    exact pushCells_keeps _ _ _ _ (Heap.get?_push_of_some _ e)
  have still : ∀ {τ : L2.St} {G : Hp} {t : Shared}, Inv (X.blk s3 H3 sc ce fp) [] τ G t → (∀ b ∈ fp, G b = none) → ∀ b ∈ fp, FpOk (X.blk s3 H3 sc ce fp) [] G b := fun {τ G t} J no b hb =>
    ⟨no b hb, (J.ok.exf b hb).1, J.ok.exfs b hb, .inl hb, fun x c e => (J.ok.exf b hb).2 x c e, fun p hp => absurd (show p ∈ ([] : List (Addr × Obj)) ++ [] from hp) (by simp)⟩
  -- the outer loop
  let Bk : Cx := X.blk s3 H3 sc ce fp
  let outer : Nat → Shared → Prop := fun n t => ∃ i G, Inv Bk [] (wipe σ (own.map (·.2))) G t ∧ tn i t.heap ∧ (∀ b ∈ fp, G b = none) ∧ W i n G
  refine PpSet.codeAny_compStart_set ?L (T.self X.A 0 _ _ _ st4 ?L)
  refine set2_loop1 (fold2 ce) outer ?_ m0 ⟨0, H3, I4, st4, fun b hb => (f3 b hb).1.1, w0⟩
  rintro n s5 ⟨i, H5, I5, st5, n5, w5⟩
  rcases turn i n H5 w5 with ⟨stop, qq⟩ | ⟨go, Nx, hNx, step⟩
  · refine thnF (T.done Bk rfl rfl rfl hc i [] s5 _ H5 (fun _ _ => False) I5 (still I5 n5) st5 stop) fun r s6 ⟨hr, I6⟩ => ?_
    subst hr
    have fr : H5 s3.heap.objs.size = none := by
      rw [← cL]
      exact I6.free
    obtain ⟨m, hn, _⟩ := I6.loc
    have hn2 : s6.heap.Ns s3.heap.objs.size m := by
      rw [← cL]
      exact hn
    exact out D s3.heap.objs.size s6 m H5 (I3.call' (ch := fp) I6.os I6.base I6.hok I6.bare fun b hb => ⟨(f3 b hb).1.2.2.2.1, (f3 b hb).1.2.1, (f3 b hb).1.2.2.2.2.1, (f3 b hb).1.2.2.2.2.2⟩) qq hn2 (I3.fpOk (Nat.le_refl _) fr)
  refine thnF (T.item Bk rfl rfl rfl hc i [] s5 _ H5 (fun _ _ => False) I5 (still I5 n5) st5 go) fun r s6 ⟨u, hr, h6⟩ => ?_
  subst hr
  refine thnF h6 fun _ s7 ⟨x, H7, I7, r7, y7, st7, n7⟩ => ?_
  refine thnF (gg.run _ s7 _ H7 x u _ (I7.pinned (still I7 n7) (T.obj _ _ st7)) r7 (step x H7 y7)) fun _ s8 ⟨σ8, H8, I8, hw8, q8⟩ => ?_
  have len8 : (wipe σ (own.map (·.2))).length = (wipe σ8 vs2).length := by rw [← hw8, wipe_length, wipe_length]
  have know8 : ∀ (j : Nat) v, (wipe σ (own.map (·.2)))[j]? = some (some v) → (wipe σ8 vs2)[j]? = some (some v) := fun j v e => by
    rw [← hw8] at e
    obtain ⟨e1, e2⟩ := wipe_some e
    rw [wipe_out fun z => e2 (hv j z)]
    exact e1
  have fin : ∀ {t : Shared} {G : Hp}, Inv Bk ([] ++ pinsAt fp s7.heap) (wipe σ8 vs2) G t → Nx G → Less2 outer n t := fun {t G} J nx => by
    obtain ⟨m', hm, w'⟩ := hNx G nx
    have pin : ∀ b ∈ fp, ∀ o, s7.heap.get? b = some o → t.heap.get? b = some o ∧ G b = none := fun b hb o e => ⟨(J.pin (b, o) (List.mem_append_right _ (List.mem_append_right _ (mem_pinsAt hb e)))).1, (J.pin (b, o) (List.mem_append_right _ (List.mem_append_right _ (mem_pinsAt hb e)))).2.1⟩
    refine ⟨m', hm, i + 1, G, (J.unpinned (pins := [])).weak len8 know8, T.keep _ _ _ st7 fun b hb o e => (pin b hb o e).1, fun b hb => ?_, w'⟩
    obtain ⟨o, e, _⟩ := T.obj _ _ st7 b hb
    exact (pin b hb o e).2
  -- the inner one
  refine thnF (gi.run _ s8 σ8 H8 _ I8 q8) fun zs s9 h9 => thnF h9 fun _ s10 h10 => ?_
  obtain ⟨ib, fq, tm, J2, H10, rfl, I10, T2, st10, f10, W2, ⟨m2, w2⟩, turn2⟩ := h10
  have still2 : ∀ {G : Hp}, (∀ b ∈ fq, G b = none) → ∀ b ∈ fq, FpOk Bk ([] ++ pinsAt fp s7.heap) G b := fun no b hb => ⟨no b hb, (f10 b hb).2⟩
  let inner : Nat → Shared → Prop := fun k t => ∃ j G, Inv Bk ([] ++ pinsAt fp s7.heap) (wipe σ8 vs2) G t ∧ tm j t.heap ∧ (∀ b ∈ fq, G b = none) ∧ W2 j k G
  have loop2 : codeAny (model X.prog X.w) X.A (.compLoop (Set2 el t1 j1 t2 j2 sc ps) 1 (.ref ib) (.ref D) ce) (fun r t => match r with
      | .ok _ => Less2 outer n t
      | .error _ => False) s10 := by
    refine set2_loop2 inner ?_ m2 ⟨0, H10, I10.weak (wipe_length _ _) (fun j v e => (wipe_some e).1), st10, fun b hb => (f10 b hb).1, w2⟩
    rintro k s11 ⟨j, H11, I11, st11, n11, w11⟩
    rcases turn2 j k H11 w11 with ⟨stop2, nx⟩ | ⟨go2, Ny, hNy, step2⟩
    · refine thnF (T2.done Bk rfl rfl rfl hc j _ s11 _ H11 (fun _ _ => False) I11 (still2 n11) st11 stop2) fun r s12 ⟨hr, I12⟩ => ?_
      subst hr
      exact fin I12 nx
    refine thnF (T2.item Bk rfl rfl rfl hc j _ s11 _ H11 (fun _ _ => False) I11 (still2 n11) st11 go2) fun r s12 ⟨u2, hr, h12⟩ => ?_
    subst hr
    refine thnF h12 fun _ s13 ⟨x2, H13, I13, r13, y13, st13, n13⟩ => ?_
    refine thnF (gg2.run _ s13 _ H13 x2 u2 _ (I13.pinned (still2 n13) (T2.obj _ _ st13)) r13 (step2 x2 H13 y13)) fun _ s14 ⟨σ14, H14, I14, hw14, q14⟩ => ?_
    refine thnF (ge.run _ s14 σ14 H14 _ I14 q14) fun z s15 ⟨yv, H15, I15, r15, key, S0, n0, ey, hD15, hz, ny⟩ => ?_
    rw [ey] at r15
    refine add_key (X := Bk) I15 hD15 hz r15 fun s16 I16 => ?_
    obtain ⟨m', hm, w'⟩ := hNy _ ny
    have pin : ∀ b ∈ fq, ∀ o, s13.heap.get? b = some o → s16.heap.get? b = some o ∧ _ = none := fun b hb o e => ⟨(I16.pin (b, o) (List.mem_append_right _ (List.mem_append_right _ (mem_pinsAt hb e)))).1, (I16.pin (b, o) (List.mem_append_right _ (List.mem_append_right _ (mem_pinsAt hb e)))).2.1⟩
    refine ⟨m', hm, j + 1, _, I16.unpinned.weak (by rw [← hw14, wipe_length]) (fun j v e => by rw [← hw14] at e; exact (wipe_some e).1), T2.keep _ _ _ st13 fun b hb o e => (pin b hb o e).1, fun b hb => ?_, w'⟩
    obtain ⟨o, e, _⟩ := T2.obj _ _ st13 b hb
    exact (pin b hb o e).2
  exact set2_start loop2 (T2.self X.A 0 _ _ _ st10 loop2)
theorem pe_sk2 {el t1 j1 t2 j2 : Expr} {sc : Scope} {own : List (PySem.Str × Nat)} {vs2 : List Nat} {ps : PySem.Pos} {wi wi2 : TI} {g g2 : TG} {te : TE} (hc : X.calm = true) (nd : X.N.Nodup) (hi : PI X t1 j1 wi) (ok : BlkOk X.N X.env.scope sc own) (hv : ∀ i ∈ vs2, i ∈ own.map (·.2))
    (bg : BlkAll X sc fun Y => PG Y t1 g) (bi : BlkAll X sc fun Y => PI Y t2 j2 wi2) (bg2 : BlkAll X sc fun Y => PG Y t2 g2) (be : BlkAll X sc fun Y => PE Y el te) (fold : ∀ x, foldedSetIterable j1 X.env x = pure x := by intro _; rfl) (fold2 : ∀ en x, foldedSetIterable j2 en x = pure x := by intro _ _; rfl) :
    PE X (Set2 el t1 j1 t2 j2 sc ps) (tSk2 X.prog X.w wi g wi2 g2 te (own.map (·.2)) vs2) := by
  refine ⟨fun pins s σ H Q I h => ?_⟩
  rw [PpSet.eval_SetComp]
  refine sk2_core hc nd I hi ok hv bg bi bg2 be fold fold2 h fun D C t m G J q hn f => ⟨m, hn, fun h2 sb => ⟨.ref D, G, J.turned (t' := t.toks) (fun b o hb e => (sb.2 b hb).trans e) f.1 f.2.1 f.2.2.2.1 f.2.2.2.2.1 f.2.2.2.2.2, rfl, q⟩⟩
end
end Qj
namespace Qj
open PySem PySem.Spec PyProof.Rows L2
/-! ### conditions -/
structure Cnd where
  ts : List Tm
  f : Int × Int
  b : Bool
def CondV (K : PySem.W.Frag) (C D : Addr) (n : Nat) (H : Hp) (v : V) (c : Cnd) : Prop := ∃ q r, v = .ref q ∧ SqT K H q [.ref r, .bl c.b] ∧ FormX K C D H r c.ts c.f ∧ Frm n c.ts c.f
def CondAt (K : PySem.W.Frag) (C D : Addr) (n : Nat) (H : Hp) (p : Addr) (cs : List Cnd) : Prop := ∃ xs, SqT K H p xs ∧ Paired (CondV K C D n H) xs cs
section
variable {K : PySem.W.Frag} {C D p : Addr} {n : Nat} {H H' : Hp} {cs : List Cnd}
theorem CondV.ex {v : V} {c : Cnd} (h : CondV K C D n H v c) (e : Evl.Ex H H') : CondV K C D n H' v c := let ⟨q, r, a, b, c, d⟩ := h; ⟨q, r, a, sqT_ex e b, c.ex e, d⟩
theorem CondV.bu {v : V} {c : Cnd} (h : CondV K C D n H v c) (k : DeckAt H D) (e : Bu D H H') : CondV K C D n H' v c := let ⟨q, r, a, b, c, d⟩ := h; ⟨q, r, a, sqT_bu k e b, c.bu k e, d⟩
theorem CondAt.ex (h : CondAt K C D n H p cs) (e : Evl.Ex H H') : CondAt K C D n H' p cs := let ⟨xs, a, b⟩ := h; ⟨xs, sqT_ex e a, Paired.mapP b fun _ _ z => z.ex e⟩
theorem CondAt.bu (h : CondAt K C D n H p cs) (k : DeckAt H D) (e : Bu D H H') : CondAt K C D n H' p cs := let ⟨xs, a, b⟩ := h; ⟨xs, sqT_bu k e a, Paired.mapP b fun _ _ z => z.bu k e⟩
end
/-- the names that occur -/
def nmsC (cs : List Cnd) : List Str := cs.flatMap fun c => c.ts.map (·.1)
theorem nmsC_next {cs : List Cnd} {i : Nat} {c : Cnd} (h : cs[i]? = some c) : nmsC (cs.take (i + 1)) = nmsC (cs.take i) ++ c.ts.map (·.1) := by
  unfold nmsC
  rw [Qj.take_next h, List.flatMap_append]
  simp
theorem nmsC_len {cs : List Cnd} (h : ∀ c ∈ cs, c.ts.length ≤ 6) : (nmsC cs).length ≤ 6 * cs.length := by
  induction cs with
  | nil => exact Nat.le_refl _
  | cons c r ih =>
    have i1 := ih fun d hd => h d (List.mem_cons_of_mem _ hd)
    have i2 := h c (List.mem_cons_self ..)
    unfold nmsC at i1 ⊢
    rw [List.flatMap_cons, List.length_append, List.length_map, List.length_cons]
    omega
def spNamesIn (K : PySem.W.Frag) (C : Addr) : Sp := fun vs H Q _ => ∃ (D p : Addr) (n : Nat) (cs : List Cnd), vs = [.ref p] ∧ CondAt K C D n H p cs ∧ cs.length ≤ 100 ∧
  ∀ (L : Addr) (ns : List Str) (H' : Hp), H L = none → Evl.Ex H H' → H' L = some (.lst (ns.map V.str)) → sortedS ns = true → ns.Nodup → (∀ x, x ∈ ns ↔ x ∈ nmsC cs) → Q (.ref L) H'
/-- the walks of {e for x in xs for y in ys} -/
theorem sk2_it {P : Program} {w : World} {J : It} {n : Nat} {Gd : Hp → Prop} {Y : Nat → Hp → V → Hp → Prop} (wk : Walk J n Gd Y) {g : TG} {wi2 : TI} {g2 : TG} {te : TE} {vs vs2 : List Nat} {σ : L2.St} {D : Addr} {Qd : Hp → Prop} {G0 : Hp} (Pv : Nat → Hp → Prop)
    (h0 : Pv 0 (upd G0 D (SetTO P w D (fun _ => false) 0))) (hG : ∀ i G, i ≤ n → Pv i G → Gd G) (hs : ∀ i x G G', i < n → Pv i G → Y i G x G' → g x (wipe σ vs) G' fun σ2 G2 => wipe σ2 vs = wipe σ vs ∧ forK P w wi2 g2 te vs2 D (Pv (i + 1)) σ2 G2) (hd : ∀ G, Pv n G → Qd G) :
    walk2K P w g wi2 g2 te vs vs2 σ J D Qd G0 := by
  refine ⟨fun i m G => m + i = n ∧ Pv i G, ⟨n, rfl, h0⟩, fun i m G h => ?_⟩
  obtain ⟨e, p⟩ := h
  cases m with
  | zero =>
    obtain rfl : i = n := by omega
    exact .inl ⟨wk.stops G (hG _ G (Nat.le_refl _) p), hd G p⟩
  | succ m =>
    have lt : i < n := by omega
    exact .inr ⟨wk.goes i G lt (hG i G (by omega) p), Pv (i + 1), fun G' p' => ⟨m, Nat.lt_succ_self m, by omega, p'⟩, fun x G' y => hs i x G G' lt p (wk.yields i G x G' lt (hG i G (by omega) p) y)⟩
theorem in2_it {P : Program} {w : World} {J : It} {n : Nat} {Gd : Hp → Prop} {Y : Nat → Hp → V → Hp → Prop} (wk : Walk J n Gd Y) {g : TG} {te : TE} {vs : List Nat} {σ : L2.St} {D : Addr} {Nx : Hp → Prop} {G0 : Hp} (Pv : Nat → Hp → Prop)
    (h0 : Pv 0 G0) (hG : ∀ i G, i ≤ n → Pv i G → Gd G) (hs : ∀ i x G G', i < n → Pv i G → Y i G x G' → g x (wipe σ vs) G' (inK P w te vs D (Pv (i + 1)) σ)) (hd : ∀ G, Pv n G → Nx G) :
    ∃ W : Nat → Nat → Hp → Prop, (∃ m, W 0 m G0) ∧ ∀ j k G, W j k G → (J.stop j G ∧ Nx G) ∨ (J.go j G ∧ ∃ Ny : Hp → Prop, (∀ G', Ny G' → ∃ k', k' < k ∧ W (j + 1) k' G') ∧ ∀ y G', J.yld j G y G' → g y (wipe σ vs) G' (inK P w te vs D Ny σ)) := by
  refine ⟨fun i m G => m + i = n ∧ Pv i G, ⟨n, rfl, h0⟩, fun i m G h => ?_⟩
  obtain ⟨e, p⟩ := h
  cases m with
  | zero =>
    obtain rfl : i = n := by omega
    exact .inl ⟨wk.stops G (hG _ G (Nat.le_refl _) p), hd G p⟩
  | succ m =>
    have lt : i < n := by omega
    exact .inr ⟨wk.goes i G lt (hG i G (by omega) p), Pv (i + 1), fun G' p' => ⟨m, Nat.lt_succ_self m, by omega, p'⟩, fun x G' y => hs i x G G' lt p (wk.yields i G x G' lt (hG i G (by omega) p) y)⟩
end Qj
namespace Qj
open PySem PySem.Spec PyProof.Rows L2
/-! ### what never changes: tuples and instances stay -/
def Im : HO → Bool
  | .tup _ => true
  | .ins _ _ _ => true
  | .frz _ u => Im u
  | _ => false
def Kv (H H' : Hp) : Prop := ∀ b u, Im u = true → H b = some u → H' b = some u
section
variable {K : PySem.W.Frag} {C D r p : Addr} {H H' H2 : Hp}
theorem Kv.refl (H : Hp) : Kv H H := fun _ _ _ h => h
theorem Kv.trans (a : Kv H H') (b : Kv H' H2) : Kv H H2 := fun x u i h => b x u i (a x u i h)
theorem Kv.ex (e : Evl.Ex H H') : Kv H H' := fun b u _ h => e b u h
theorem Kv.bu (k : DeckAt H D) (e : Bu D H H') : Kv H H' := fun b u i h => e b u (fun z => by
  obtain ⟨g, m, n, hD, _⟩ := k
  subst z
  rw [hD] at h
  cases h
  cases i) h
theorem Kv.bt {L : Addr} {o : HO} (e : ∀ b u, b ≠ L → H b = some u → H' b = some u) (hL : H L = some o) (n : Im o = false) : Kv H H' := fun b u i h => e b u (fun z => by
  subst z
  rw [hL] at h
  cases h
  rw [n] at i
  cases i) h
theorem Kv.upd {L : Addr} {o o2 : HO} (hL : H L = some o) (n : Im o = false) : Kv H (L2.upd H L o2) := Kv.bt (fun b u h e => by rw [upd_ne h]; exact e) hL n
/-- all but the deck and one thing that changes -/
theorem Kv.two {L : Addr} {o : HO} (k : DeckAt H D) (e : ∀ b u, b ≠ D → b ≠ L → H b = some u → H' b = some u) (hL : H L = some o) (n : Im o = false) : Kv H H' := fun b u i h => e b u (fun z => by
  obtain ⟨g, m, n, hD, _⟩ := k
  subst z
  rw [hD] at h
  cases h
  cases i) (fun z => by
  subst z
  rw [hL] at h
  cases h
  rw [n] at i
  cases i) h
theorem Kv.sqT (e : Kv H H') {a : Addr} {xs : List V} (h : SqT K H a xs) : SqT K H' a xs := by
  rcases h with (h | ⟨o, h⟩) | h
  · exact .inl (.inl (e _ _ rfl h))
  · exact .inl (.inr ⟨o, e _ _ rfl h⟩)
  · exact .inr h
theorem Kv.dt (e : Kv H H') {d : PyData} {v : V} (h : Dt K D H v d) (n : noL d = true) : Dt K D H' v d := Dt.only (fun _ _ h => e.sqT h) d n h
theorem Kv.dtA (e : Kv H H') {ds : List PyData} {vs : List V} (h : DtA K D H vs ds) (n : noLA ds = true) : DtA K D H' vs ds := DtA.only (fun _ _ h => e.sqT h) ds n h
theorem Kv.fx {us : List Tm} {f : Int × Int} (e : Kv H H') (h : FormX K C D H r us f) : FormX K C D H' r us f := by
  obtain ⟨dx, pt, cv, xs, a, ⟨o, b, od⟩, c, d⟩ := h.ob
  exact ⟨dx, pt, cv, xs, e _ _ rfl a, ⟨o, e _ _ rfl b, od⟩, e.dtA c (by have z := noL_ts us; exact z), e.dt d rfl⟩
theorem Kv.cond {n : Nat} {cs : List Cnd} (e : Kv H H') (h : CondAt K C D n H p cs) : CondAt K C D n H' p cs := by
  obtain ⟨xs, a, b⟩ := h
  exact ⟨xs, e.sqT a, Paired.mapP b fun _ _ ⟨q, r, z1, z2, z3, z4⟩ => ⟨q, r, z1, e.sqT z2, e.fx z3, z4⟩⟩
theorem Kv.kvT {kvs : List (Key × V)} {ts : List Tm} (e : Kv H H') (h : KvT K H kvs ts) : KvT K H' kvs ts := h.keep fun _ _ z => e.sqT z
end
theorem paired_at {α β : Type} {F : α → β → Prop} : ∀ {xs : List α} {ys : List β}, Paired F xs ys → ∀ {i : Nat} {x : α}, xs[i]? = some x → ∃ y, ys[i]? = some y ∧ F x y
  | _, _, .nil, _, _, h => by simp at h
  | _, _, .cons h t, 0, _, e => ⟨_, rfl, by cases e; exact h⟩
  | _, _, .cons h t, i + 1, x, e => by
    rw [List.getElem?_cons_succ] at e
    obtain ⟨y, a, b⟩ := paired_at t e
    exact ⟨y, by rw [List.getElem?_cons_succ]; exact a, b⟩
/-! ### conditions as they are drawn -/
def cD (c : Cnd) : PyData := .tuple [.tuple [.tuple (c.ts.map tmD), frD c.f], .bool c.b]
theorem noL_c (c : Cnd) : noL (cD c) = true := by
  have z := noL_ts c.ts
  simp only [cD, noL, noLA, frD, Bool.and_true, Bool.true_and] at z ⊢
  exact z
theorem noLA_cs (cs : List Cnd) : noLA (cs.map cD) = true := noLA_of fun d hd => by
  obtain ⟨c, _, rfl⟩ := List.mem_map.mp hd
  exact noL_c c
def NZ (ts : List Tm) : Prop := ∀ t ∈ ts, t.2.1 ≠ 0
structure CdOk (n : Nat) (ns : List Str) (c : Cnd) : Prop where
  t : TsK n c.ts c.f
  z : NZ c.ts
  i : ∀ t ∈ c.ts, t.1 ∈ ns
def Mk (c d : Cnd) : Prop := d.f = c.f ∧ d.b = c.b ∧ d.ts.Perm c.ts
/-- whether a condition holds -/
def metC (o : Str → Option (Int × Int)) (c : Cnd) : Bool := decide (0 < (valL o c.ts c.f).1) || (decide ((valL o c.ts c.f).1 = 0) && !c.b)
theorem mk_met {o : Str → Option (Int × Int)} {c d : Cnd} {n : Nat} {ns : List Str} (h : Mk c d) (k : CdOk n ns c) (ho : ∀ x g, o x = some g → 0 < g.2) : metC o d = metC o c := by
  obtain ⟨a, b, p⟩ := h
  unfold metC
  rw [a, b, ← valL_perm p.symm k.t.fs.p ⟨ho, fun t m => (k.t.s t m).p⟩]
theorem mk_all {o : Str → Option (Int × Int)} {n : Nat} {ns : List Str} (ho : ∀ x g, o x = some g → 0 < g.2) : ∀ {cs ds : List Cnd}, Paired Mk cs ds → (∀ c ∈ cs, CdOk n ns c) → ds.all (metC o) = cs.all (metC o)
  | _, _, .nil, _ => rfl
  | _, _, .cons h t, k => by
    rw [List.all_cons, List.all_cons, mk_met h (k _ (List.mem_cons_self ..)) ho, mk_all ho t fun c m => k c (List.mem_cons_of_mem _ m)]
theorem mk_nms : ∀ {cs ds : List Cnd}, Paired Mk cs ds → ∀ x, x ∈ nmsC ds ↔ x ∈ nmsC cs
  | _, _, .nil, _ => Iff.rfl
  | _, _, @Paired.cons _ _ _ c d cr dr h t, x => by
    have ih := mk_nms t x
    have e : x ∈ d.ts.map (·.1) ↔ x ∈ c.ts.map (·.1) := (h.2.2.map (·.1)).mem_iff
    unfold nmsC at ih ⊢
    rw [List.flatMap_cons, List.flatMap_cons, List.mem_append, List.mem_append, ih, e]
theorem nmsC_mem {cs : List Cnd} {x : Str} : x ∈ nmsC cs ↔ ∃ c ∈ cs, ∃ t ∈ c.ts, t.1 = x := by
  unfold nmsC
  rw [List.mem_flatMap]
  constructor
  · rintro ⟨c, hc, h⟩
    obtain ⟨t, ht, e⟩ := List.mem_map.mp h
    exact ⟨c, hc, t, ht, e⟩
  · rintro ⟨c, hc, t, ht, e⟩
    exact ⟨c, hc, List.mem_map.mpr ⟨t, ht, e⟩⟩
/-! ### operands as a list -/
def oT (os : List Tm) : Str → Option (Int × Int) := fun x => (os.find? fun t => decide (t.1 = x)).map (·.2)
theorem oT_cons {t : Tm} {r : List Tm} {x : Str} : oT (t :: r) x = if t.1 = x then some t.2 else oT r x := by
  unfold oT
  rw [List.find?_cons]
  by_cases e : t.1 = x
  · rw [if_pos e, decide_eq_true e]
    rfl
  · rw [if_neg e, decide_eq_false e]
theorem oT_mem {os : List Tm} {x : Str} {g : Int × Int} (h : oT os x = some g) : (x, g) ∈ os := by
  unfold oT at h
  obtain ⟨t, ht, e⟩ := Option.map_eq_some_iff.mp h
  have z := List.find?_some ht
  have m := List.mem_of_find?_eq_some ht
  have e1 : t.1 = x := of_decide_eq_true z
  rw [← e1, ← e]
  exact m
theorem oT_some {os : List Tm} {x : Str} : (oT os x).isSome = true ↔ x ∈ os.map (·.1) := by
  induction os with
  | nil => exact ⟨(fun h => nomatch h), (fun h => nomatch h)⟩
  | cons t r ih =>
    rw [oT_cons, List.map_cons, List.mem_cons]
    by_cases e : t.1 = x
    · rw [if_pos e]
      exact ⟨fun _ => .inl e.symm, fun _ => rfl⟩
    · rw [if_neg e, ih]
      exact ⟨.inr, fun h => h.elim (fun z => absurd z.symm e) id⟩
theorem oT_of {os : List Tm} (nd : (os.map (·.1)).Nodup) {t : Tm} (h : t ∈ os) : oT os t.1 = some t.2 := by
  induction os with
  | nil => cases h
  | cons u r ih =>
    rw [List.map_cons, List.nodup_cons] at nd
    rw [oT_cons]
    rcases List.mem_cons.mp h with e | e
    · subst e
      rw [if_pos rfl]
    · rw [if_neg (fun z => nd.1 (by rw [z]; exact List.mem_map.mpr ⟨t, e, rfl⟩))]
      exact ih nd.2 e
theorem KvT.ops {K : PySem.W.Frag} {H : Hp} {kvs : List (Key × V)} {ts : List Tm} (h : KvT K H kvs ts) (x : Str) : (oT ts x = none → valV kvs (.inr x) = none) ∧ (∀ g, oT ts x = some g → ∃ p, valV kvs (.inr x) = some (.ref p) ∧ FrA K H p g) := by
  unfold KvT at h
  induction h with
  | nil => exact ⟨(fun _ => rfl), (fun g h => nomatch h)⟩
  | @cons kv t kr tr h1 h2 ih =>
    obtain ⟨e, p, f, g⟩ := h1
    rw [oT_cons]
    by_cases z : t.1 = x
    · rw [if_pos z, valV_pos (e.trans (congrArg Sum.inr z))]
      refine ⟨(fun h => nomatch h), fun g2 h => ⟨p, congrArg some f, ?_⟩⟩
      cases h
      exact g
    · rw [if_neg z, valV_neg (fun y => z (Sum.inr.inj (e.symm.trans y)))]
      exact ih
theorem KvT.at {K : PySem.W.Frag} {H : Hp} {od : Addr} {kvs : List (Key × V)} {ts : List Tm} (h : KvT K H kvs ts) (hd : H od = some (.dK kvs)) : OpsAt K H od (oT ts) := ⟨kvs, hd, h.ops⟩
theorem KvT.ex {K : PySem.W.Frag} {H H' : Hp} {kvs : List (Key × V)} {ts : List Tm} (h : KvT K H kvs ts) (e : Evl.Ex H H') : KvT K H' kvs ts := (Kv.ex e).kvT h
theorem KvT.bu {K : PySem.W.Frag} {D : Addr} {H H' : Hp} {kvs : List (Key × V)} {ts : List Tm} (h : KvT K H kvs ts) (k : DeckAt H D) (e : Bu D H H') : KvT K H' kvs ts := (Kv.bu k e).kvT h
theorem FrA.bu {K : PySem.W.Frag} {D : Addr} {H H' : Hp} {p : Addr} {x : Int × Int} (h : FrA K H p x) (k : DeckAt H D) (e : Bu D H H') : FrA K H' p x := sqT_bu k e h
theorem OpsAt.bu {K : PySem.W.Frag} {D : Addr} {H H' : Hp} {od : Addr} {o : Str → Option (Int × Int)} (h : OpsAt K H od o) (k : DeckAt H D) (e : Bu D H H') : OpsAt K H' od o := opsAt_bu h k e
theorem TsK.low {k : Nat} {ts : List Tm} {f : Int × Int} (h : TsK k ts f) : Lowt f := ⟨h.fs.p, h.fg⟩
theorem mulL_nz {s : Int × Int} {ts : List Tm} (h : NZ ts) (p : ∀ t ∈ ts, 0 < t.2.2) (s1 : s.1 ≠ 0) (s2 : 0 < s.2) : NZ (mulL s ts) := fun t ht z => by
  obtain ⟨u, hu, rfl⟩ := List.mem_map.mp ht
  have lw := lw_ti (p u hu) s2
  have z2 := (rv_zero lw.p).mpr z
  rw [rv_ti (p u hu) s2] at z2
  rcases Rat.mul_eq_zero.mp z2 with h1 | h1
  · exact h u hu ((rv_zero (p u hu)).mp h1)
  · exact s1 ((rv_zero s2).mp h1)
theorem keptT_nz {ts : List Tm} (h : NZ ts) : keptT ts = ts := List.filter_eq_self.mpr fun t ht => decide_eq_true (h t ht)
theorem oT_sm {os : List Tm} {n : Nat} (h : ∀ t ∈ os, Sm n t.2) : ∀ x g, oT os x = some g → Sm n g := fun x g e => h _ (oT_mem e)
def spSmall : Sp := fun vs H Q _ => ∃ D : Addr, vs = [.ref D] ∧ DeckAt H D ∧ ∀ (r : Addr) (x : Int × Int) (H' : Hp), H' r = some (frV x) → Sm 3 x → Nat.gcd x.1.natAbs x.2.natAbs = 1 → Bu D H H' → DeckAt H' D → Q (.ref r) H'
/-- terms and a constant, as they are drawn -/
def fD (ts : List Tm) (f : Int × Int) : PyData := .tuple [.tuple (ts.map tmD), frD f]
def spPairL (K : PySem.W.Frag) : Sp := fun vs H Q _ => ∃ (D F : Addr) (ns : List Str), vs = [.ref D, .ref F] ∧ DeckAt H D ∧ H F = some (.lst (ns.map V.str)) ∧ F ≠ D ∧ ns.length ≤ 5 ∧ ns.Nodup ∧ (∀ x ∈ ns, Nm x) ∧
  ∀ (v : V) (ts : List Tm) (c : Int × Int) (H' : Hp), Dt K D H' v (fD ts c) → TsK 3 ts c → NZ ts → (∀ t ∈ ts, t.1 ∈ ns) → Bu D H H' → DeckAt H' D → Q v H'
def spScaledL (K : PySem.W.Frag) : Sp := fun vs H Q _ => ∃ (D p : Addr) (vt vc : V) (k j : Nat) (ts : List Tm) (f s : Int × Int), vs = [vt, vc, .ref p] ∧ Dt K D H vt (.tuple (ts.map tmD)) ∧ Dt K D H vc (frD f) ∧ FrA K H p s ∧ TsK k ts f ∧ Sm j s ∧ 0 < k ∧ 0 < j ∧ k ≤ 1000 ∧ j ≤ 1000 ∧
  ∀ (v : V) (H' : Hp), Dt K D H' v (fD (mulL s ts) (ti f s)) → Evl.Ex H H' → Q v H'
def spMetK (K : PySem.W.Frag) : Sp := fun vs H Q _ => ∃ (p : Addr) (x : Int × Int) (b : Bool), vs = [.ref p, .bl b] ∧ FrA K H p x ∧ Q (.bl (decide (0 < x.1) || (decide (x.1 = 0) && !b))) H
def spMetL (K : PySem.W.Frag) : Sp := fun vs H Q _ => ∃ (D L od : Addr) (xs : List V) (ns : List Str) (cs : List Cnd) (o : Str → Option (Int × Int)), vs = [.ref L, .ref od] ∧ H L = some (.lst xs) ∧ DtA K D H xs (cs.map cD) ∧ cs.length ≤ 60 ∧ (∀ c ∈ cs, CdOk 62 ns c) ∧ (∀ c ∈ cs, c.ts.length ≤ 5) ∧ OpsAt K H od o ∧ (∀ x g, o x = some g → Sm 62 g) ∧ (∀ x ∈ ns, (o x).isSome) ∧
  ∀ H', Evl.Ex H H' → Q (.bl (cs.all (metC o))) H'
def spNamesL (K : PySem.W.Frag) : Sp := fun vs H Q _ => ∃ (D L : Addr) (xs : List V) (cs : List Cnd), vs = [.ref L] ∧ H L = some (.lst xs) ∧ DtA K D H xs (cs.map cD) ∧ cs.length ≤ 60 ∧ (∀ c ∈ cs, c.ts.length ≤ 6) ∧
  ∀ (N : Addr) (ms : List Str) (H' : Hp), Evl.Ex H H' → H' N = some (.lst (ms.map V.str)) → sortedS ms = true → ms.Nodup → (∀ x, x ∈ ms ↔ x ∈ nmsC cs) → Q (.ref N) H'
/-- the names that occur, rising -/
def NmsOf (cs : List Cnd) (ms : List Str) : Prop := sortedS ms = true ∧ ms.Nodup ∧ ∀ x, x ∈ ms ↔ x ∈ nmsC cs
def lostOf (o : Str → Option (Int × Int)) (ms : List Str) : List Str := ms.filter fun x => !(o x).isSome
def spHolds (K : PySem.W.Frag) (C Miss : Addr) : Sp := fun vs H Q E => ∃ (D p od : Addr) (cs : List Cnd) (o : Str → Option (Int × Int)), vs = [.ref p, .ref od] ∧ CondAt K C D 62 H p cs ∧ cs.length ≤ 60 ∧ OpsAt K H od o ∧ (∀ x g, o x = some g → Sm 62 g) ∧
  ((∀ x ∈ nmsC cs, (o x).isSome) → ∀ H', Evl.Ex H H' → Q (.bl (cs.all (metC o))) H') ∧ (∀ ms x d H', NmsOf cs ms → (lostOf o ms).head? = some x → Evl.Ex H H' → H' d = some (.xd [("name", .str x)]) → E (.ref Miss) (some d) H')
def spMissH (K : PySem.W.Frag) (C : Addr) : Sp := fun vs H Q _ => ∃ (D p od : Addr) (cs : List Cnd) (o : Str → Option (Int × Int)) (ms : List Str), vs = [.ref p, .ref od] ∧ CondAt K C D 62 H p cs ∧ cs.length ≤ 60 ∧ OpsAt K H od o ∧ (∀ x g, o x = some g → Sm 62 g) ∧ NmsOf cs ms ∧
  ∀ H', Evl.Ex H H' → Q (.str ((lostOf o ms).head?.getD "none")) H'
theorem NmsOf.one {cs ds : List Cnd} {l m : List Str} (h : ∀ x, x ∈ nmsC ds ↔ x ∈ nmsC cs) (a : NmsOf cs l) (b : NmsOf ds m) : l = m := sorted_one a.1 a.2.1 b.1 b.2.1 fun x => (a.2.2 x).trans ((h x).symm.trans (b.2.2 x).symm)
end Qj
namespace Qj
open PySem PySem.Spec PyProof.Rows L2
/-! ### sums of two sizes -/
theorem addL_ok2 {j k : Nat} : ∀ {bs as : List Tm}, (as.map (·.1)).Nodup → (bs.map (·.1)).Nodup → (∀ t ∈ as, Sm (j + k + 1) t.2 ∧ Lowt t.2) → (∀ t ∈ bs, Sm k t.2 ∧ Lowt t.2 ∧ Sm j (cfT as t.1)) →
    ((addL as bs).map (·.1)).Nodup ∧ (∀ t ∈ addL as bs, Sm (j + k + 1) t.2 ∧ Lowt t.2) ∧ (∀ x, rv (cfT (addL as bs) x) = rv (cfT as x) + rv (cfT bs x)) ∧ ∀ t ∈ addL as bs, (∃ u ∈ as, u.1 = t.1) ∨ ∃ u ∈ bs, u.1 = t.1
  | [], as, na, _, ha, _ => ⟨na, ha, fun x => by
      show rv (cfT as x) = rv (cfT as x) + rv (0, 1)
      rw [rv_01]
      grind, fun t ht => .inl ⟨t, ht, rfl⟩⟩
  | t :: r, as, na, nb, ha, hb => by
    rw [List.map_cons, List.nodup_cons] at nb
    obtain ⟨s1, l1, s2⟩ := hb t (List.mem_cons_self ..)
    have ne : ∀ u ∈ r, t.1 ≠ u.1 := fun u hu e => nb.1 (by rw [e]; exact List.mem_map.mpr ⟨u, hu, rfl⟩)
    have sp := sm_pl s2 s1
    have lp := lw_pl s2.p s1.p
    obtain ⟨c1, c2, c3, c4⟩ := addL_ok2 (j := j) (k := k) (bs := r) (as := putTm as t.1 (pl (cfT as t.1) t.2)) (putTm_nodup na) nb.2 (fun u hu => by
      rcases putTm_mem hu with e | h
      · rw [e]
        exact ⟨sp.mono (by omega), lp⟩
      · exact ha u h) (fun u hu => by
      obtain ⟨b1, b2, b3⟩ := hb u (List.mem_cons_of_mem _ hu)
      refine ⟨b1, b2, ?_⟩
      rw [cfT_put, if_neg (ne u hu)]
      exact b3)
    refine ⟨c1, c2, fun x => ?_, fun u hu => ?_⟩
    · show rv (cfT (addL (putTm as t.1 (pl (cfT as t.1) t.2)) r) x) = _
      rw [c3 x, cfT_put, cfT_cons]
      by_cases e : t.1 = x
      · subst e
        rw [if_pos rfl, if_pos rfl, rv_pl s2.p s1.p, cfT_none (ts := r) (fun u hu z => ne u hu z.symm), rv_01]
        grind
      · rw [if_neg e, if_neg e]
    · rcases c4 u hu with ⟨v, hv, ev⟩ | ⟨v, hv, ev⟩
      · rcases putTm_mem hv with e | h
        · rw [e] at ev
          exact .inr ⟨t, List.mem_cons_self .., ev⟩
        · exact .inl ⟨v, h, ev⟩
      · exact .inr ⟨v, List.mem_cons_of_mem _ hv, ev⟩
/-- the sum of two forms over the same names -/
theorem add_ok2 {j k : Nat} {ns : List Str} {as bs : List Tm} {f g : Int × Int} (a : TsK j as f) (b : TsK k bs g) (un : ns.length ≤ 6) (sa : ∀ t ∈ as, t.1 ∈ ns) (sb : ∀ t ∈ bs, t.1 ∈ ns) (k0 : 0 < j) :
    TsK (j + k + 1) (addL as bs) (pl f g) ∧ (∀ x, rv (cfT (addL as bs) x) = rv (cfT as x) + rv (cfT bs x)) ∧ ∀ t ∈ addL as bs, t.1 ∈ ns := by
  have z1 : Sm j (0, 1) := ⟨Nat.pow_pos (by decide), Nat.one_lt_two_pow (by omega), (by decide : (0 : Int) < 1)⟩
  obtain ⟨c1, c2, c3, c4⟩ := addL_ok2 (j := j) (k := k) (as := as) (bs := bs) a.u b.u (fun t ht => ⟨(a.s t ht).mono (by omega), (a.s t ht).p, a.g t ht⟩) fun t ht => ⟨b.s t ht, ⟨(b.s t ht).p, b.g t ht⟩, cfT_all (P := Sm j) a.s z1 _⟩
  have inn : ∀ t ∈ addL as bs, t.1 ∈ ns := fun t ht => by
    rcases c4 t ht with ⟨u, hu, e⟩ | ⟨u, hu, e⟩
    · exact e ▸ sa u hu
    · exact e ▸ sb u hu
  refine ⟨⟨fun t ht => ?_, fun t ht => (c2 t ht).1, fun t ht => (c2 t ht).2.g, c1, Nat.le_trans (len_in c1 inn) un, (sm_pl a.fs b.fs).mono (by omega), (lw_pl a.fs.p b.fs.p).g⟩, c3, inn⟩
  rcases c4 t ht with ⟨u, hu, e⟩ | ⟨u, hu, e⟩
  · exact e ▸ a.n u hu
  · exact e ▸ b.n u hu
def spAddY (K : PySem.W.Frag) (C : Addr) : Sp := fun vs H Q _ => ∃ (D r1 r2 : Addr) (j k : Nat) (ns : List Str) (us ws : List Tm) (f g : Int × Int), vs = [.ref r1, .ref r2] ∧ FormX K C D H r1 us f ∧ FormX K C D H r2 ws g ∧ TsK j us f ∧ TsK k ws g ∧ 0 < j ∧ j + k + 1 ≤ 2000 ∧ ns.length ≤ 6 ∧ (∀ t ∈ us, t.1 ∈ ns) ∧ (∀ t ∈ ws, t.1 ∈ ns) ∧
  ∀ (r : Addr) (zs : List Tm) (h : Int × Int) (H' : Hp), FormX K C D H' r zs h → Frm (j + k + 1) zs h → rv h = rv f + rv g → (∀ x, rv (cfT zs x) = rv (cfT us x) + rv (cfT ws x)) → (∀ t ∈ zs, t.1 ∈ ns) → Evl.Ex H H' → Q (.ref r) H'
theorem walk_zipT {K : PySem.W.Frag} {a b : Addr} {xs ys : List V} {n : Nat} (hn : n = min xs.length ys.length) : Walk (RZ.ItzT K a b) n (fun H => SqT K H a xs ∧ SqT K H b ys) (YPair (fun i => xs[i]?) (fun i => ys[i]?)) := by
  subst hn
  refine ⟨fun i _ hi q => ?_, fun _ q => ⟨xs, ys, q.1, q.2, by omega⟩, fun i H v H' _ q y => ?_⟩
  · have h1 : i < xs.length := by omega
    have h2 : i < ys.length := by omega
    exact ⟨xs, ys, xs[i], ys[i], q.1, q.2, by simp [h1], by simp [h2]⟩
  · obtain ⟨T, x, z, h1, h2, h3, h4, h5⟩ := y
    exact ⟨T, x, z, h1, h2, h3, h4 xs q.1, h5 ys q.2⟩
/-! ### papers -/
def shr : PyData → Bool
  | .int i => decide (0 ≤ i)
  | _ => false
def shrD (n : Nat) : PyData → Bool
  | .tuple ds => decide (ds.length = n) && ds.all shr
  | _ => false
/-- a value that could be a paper -/
structure PapOk (d : PyData) : Prop where
  sh : shD d = true
  few : ∀ ds, d = .tuple ds → ds.length ≤ 20
  bd : ∀ js : List Int, d = .tuple (js.map PyData.int) → ∀ j ∈ js, j.natAbs < 2 ^ 5
theorem shr_ints : ∀ {ds : List PyData}, ds.all shr = true → ∃ js : List Int, ds = js.map .int ∧ ∀ j ∈ js, 0 ≤ j
  | [], _ => ⟨[], rfl, fun _ h => nomatch h⟩
  | d :: r, h => by
    rw [List.all_cons, Bool.and_eq_true] at h
    obtain ⟨js, e, n⟩ := shr_ints h.2
    cases d with
    | int i =>
      have z : 0 ≤ i := of_decide_eq_true h.1
      refine ⟨i :: js, by rw [e]; rfl, fun j hj => ?_⟩
      rcases List.mem_cons.mp hj with rfl | hj
      · exact z
      · exact n j hj
    | _ => exact absurd h.1 Bool.false_ne_true
theorem shrD_of {n : Nat} {d : PyData} (h : shrD n d = true) : ∃ js : List Int, d = .tuple (js.map .int) ∧ js.length = n ∧ ∀ j ∈ js, 0 ≤ j := by
  cases d with
  | tuple ds =>
    have h2 : (decide (ds.length = n) && ds.all shr) = true := h
    rw [Bool.and_eq_true] at h2
    obtain ⟨js, e, z⟩ := shr_ints h2.2
    refine ⟨js, by rw [e], ?_, z⟩
    have := of_decide_eq_true h2.1
    rw [e, List.length_map] at this
    exact this
  | _ => exact absurd h Bool.false_ne_true
def zS (x : Str) : List (Cnd × Int) → Rat
  | [] => 0
  | p :: r => cT p.1.ts x * (p.2 : Rat) + zS x r
def zC : List (Cnd × Int) → Rat
  | [] => 0
  | p :: r => rv p.1.f * (p.2 : Rat) + zC r
def zB (ps : List (Cnd × Int)) : Bool := ps.any fun p => p.1.b && decide (0 < p.2)
theorem zS_snoc {x : Str} {ps : List (Cnd × Int)} {p : Cnd × Int} : zS x (ps ++ [p]) = zS x ps + cT p.1.ts x * (p.2 : Rat) := by
  induction ps with
  | nil =>
    show cT p.1.ts x * (p.2 : Rat) + 0 = 0 + cT p.1.ts x * (p.2 : Rat)
    grind
  | cons q r ih =>
    show cT q.1.ts x * (q.2 : Rat) + zS x (r ++ [p]) = cT q.1.ts x * (q.2 : Rat) + zS x r + cT p.1.ts x * (p.2 : Rat)
    rw [ih]
    grind
theorem zC_snoc {ps : List (Cnd × Int)} {p : Cnd × Int} : zC (ps ++ [p]) = zC ps + rv p.1.f * (p.2 : Rat) := by
  induction ps with
  | nil =>
    show rv p.1.f * (p.2 : Rat) + 0 = 0 + rv p.1.f * (p.2 : Rat)
    grind
  | cons q r ih =>
    show rv q.1.f * (q.2 : Rat) + zC (r ++ [p]) = rv q.1.f * (q.2 : Rat) + zC r + rv p.1.f * (p.2 : Rat)
    rw [ih]
    grind
theorem zB_snoc {ps : List (Cnd × Int)} {p : Cnd × Int} : zB (ps ++ [p]) = (zB ps || (p.1.b && decide (0 < p.2))) := by
  unfold zB
  rw [List.any_append, List.any_cons, List.any_nil, Bool.or_false]
/-- what a paper is -/
def Pap (ns : List Str) (ps : List (Cnd × Int)) : Prop := (∀ x ∈ ns, zS x ps = 0) ∧ (zC ps < 0 ∨ zC ps = 0 ∧ zB ps = true)
def IsPap (ns : List Str) (cs : List Cnd) (d : PyData) : Prop := ∃ js : List Int, d = .tuple (js.map .int) ∧ js.length = cs.length ∧ (∀ j ∈ js, 0 ≤ j) ∧ Pap ns (cs.zip js)
theorem ints_inj : ∀ {js ks : List Int}, js.map PyData.int = ks.map PyData.int → js = ks
  | [], [], _ => rfl
  | [], _ :: _, h => by cases h
  | _ :: _, [], h => by cases h
  | j :: js, k :: ks, h => by
    rw [List.map_cons, List.map_cons] at h
    injection h with h1 h2
    injection h1 with h1
    rw [h1, ints_inj h2]
theorem pap_no {ns : List Str} {cs : List Cnd} {d : PyData} (h : shrD cs.length d = false) : ¬ IsPap ns cs d := by
  rintro ⟨js, rfl, l, n, _⟩
  have z : shrD cs.length (.tuple (js.map .int)) = true := by
    show (decide ((js.map PyData.int).length = cs.length) && (js.map PyData.int).all shr) = true
    rw [List.length_map, decide_eq_true l, Bool.true_and, List.all_map, List.all_eq_true]
    exact fun j hj => decide_eq_true (n j hj)
  rw [z] at h
  cases h
theorem pap_of {ns : List Str} {cs : List Cnd} {js : List Int} (l : js.length = cs.length) (n : ∀ j ∈ js, 0 ≤ j) : IsPap ns cs (.tuple (js.map .int)) ↔ Pap ns (cs.zip js) := by
  constructor
  · rintro ⟨ks, e, _, _, h⟩
    injection e with e
    rw [ints_inj e]
    exact h
  · exact fun h => ⟨js, rfl, l, n, h⟩
theorem mk_zip {n : Nat} {ns : List Str} : ∀ {cs ds : List Cnd} {js : List Int}, Paired Mk cs ds → (∀ c ∈ cs, CdOk n ns c) → (∀ x, zS x (ds.zip js) = zS x (cs.zip js)) ∧ zC (ds.zip js) = zC (cs.zip js) ∧ zB (ds.zip js) = zB (cs.zip js)
  | _, _, _, .nil, _ => ⟨fun _ => rfl, rfl, rfl⟩
  | _, _, [], .cons h t, _ => by
    rw [List.zip_nil_right, List.zip_nil_right]
    exact ⟨fun _ => rfl, rfl, rfl⟩
  | _, _, j :: js, @Paired.cons _ _ _ c d cr dr h t, k => by
    obtain ⟨i1, i2, i3⟩ := mk_zip (js := js) t fun c m => k c (List.mem_cons_of_mem _ m)
    obtain ⟨a, b, p⟩ := h
    have kc := k c (List.mem_cons_self ..)
    have ec : ∀ x, cT d.ts x = cT c.ts x := rv_kept kc.t.u (fun t ht => (kc.t.s t ht).p) (by rw [keptT_nz kc.z]; exact p)
    rw [List.zip_cons_cons, List.zip_cons_cons]
    refine ⟨fun x => ?_, ?_, ?_⟩
    · show cT d.ts x * (j : Rat) + zS x (dr.zip js) = cT c.ts x * (j : Rat) + zS x (cr.zip js)
      rw [ec, i1]
    · show rv d.f * (j : Rat) + zC (dr.zip js) = rv c.f * (j : Rat) + zC (cr.zip js)
      rw [a, i2]
    · show ((d.b && decide (0 < j)) || zB (dr.zip js)) = ((c.b && decide (0 < j)) || zB (cr.zip js))
      rw [b, i3]
theorem mk_pap {n : Nat} {ns : List Str} {cs ds : List Cnd} {d : PyData} (h : Paired Mk cs ds) (k : ∀ c ∈ cs, CdOk n ns c) : IsPap ns ds d ↔ IsPap ns cs d := by
  have l := Paired.length h
  unfold IsPap Pap
  constructor
  · rintro ⟨js, e, lj, n, a, b⟩
    obtain ⟨i1, i2, i3⟩ := mk_zip (js := js) h k
    rw [i2, i3] at b
    exact ⟨js, e, lj.trans l.symm, n, fun x hx => (i1 x).symm.trans (a x hx), b⟩
  · rintro ⟨js, e, lj, n, a, b⟩
    obtain ⟨i1, i2, i3⟩ := mk_zip (js := js) h k
    rw [← i2, ← i3] at b
    exact ⟨js, e, lj.trans l, n, fun x hx => (i1 x).trans (a x hx), b⟩
theorem frm_nil {ns : List Str} {zs : List Tm} (nd : (zs.map (·.1)).Nodup) (p : ∀ t ∈ zs, 0 < t.2.2) (z : NZ zs) (sub : ∀ t ∈ zs, t.1 ∈ ns) : zs = [] ↔ ∀ x ∈ ns, cT zs x = 0 := by
  constructor
  · rintro rfl x _
    exact rv_01
  · intro h
    cases zs with
    | nil => rfl
    | cons t r =>
      have m := List.mem_cons_self (a := t) (l := r)
      have e := h t.1 (sub t m)
      unfold cT at e
      rw [cfT_mem nd m] at e
      exact absurd ((rv_zero (p t m)).mp e) (z t m)
theorem rv_neg {x : Int × Int} (a : 0 < x.2) : rv x < 0 ↔ x.1 < 0 := by
  have h := rv_lt (x := x) (y := (0, 1)) a (by decide)
  rw [rv_01] at h
  rw [h]
  show x.1 * 1 < 0 * x.2 ↔ _
  rw [Int.mul_one, Int.zero_mul]
def spShares (K : PySem.W.Frag) : Sp := fun vs H Q _ => ∃ (D : Addr) (v : V) (d : PyData) (n : Nat), vs = [v, .int (n : Int)] ∧ Dt K D H v d ∧ PapOk d ∧ ∀ H', Evl.Ex H H' → Q (.bl (shrD n d)) H'
def spNever (K : PySem.W.Frag) (C : Addr) : Sp := fun vs H Q _ => ∃ (D p : Addr) (v : V) (d : PyData) (ns : List Str) (cs : List Cnd), vs = [.ref p, v] ∧ CondAt K C D 62 H p cs ∧ cs.length ≤ 8 ∧ (∀ c ∈ cs, ∀ t ∈ c.ts, t.1 ∈ ns) ∧ ns.length ≤ 6 ∧ Dt K D H v d ∧ PapOk d ∧
  ∀ b H', (b = true ↔ IsPap ns cs d) → Evl.Ex H H' → Q (.bl b) H'
def spUp (K : PySem.W.Frag) : Sp := fun vs H Q _ => ∃ (D L : Addr) (v : V) (d : PyData) (ns : List Str) (cs : List Cnd) (xs : List V), vs = [.ref L, v] ∧ H L = some (.lst xs) ∧ DtA K D H xs (cs.map cD) ∧ cs.length ≤ 8 ∧ (∀ c ∈ cs, CdOk 62 ns c) ∧ ns.length ≤ 6 ∧ Dt K D H v d ∧ PapOk d ∧
  ∀ b H', (b = true ↔ IsPap ns cs d) → Evl.Ex H H' → Q (.bl b) H'
def spAdded (K : PySem.W.Frag) : Sp := fun vs H Q _ => ∃ (D : Addr) (v1 v2 : V) (j k : Nat) (ns : List Str) (as bs : List Tm) (f g : Int × Int), vs = [v1, v2] ∧ Dt K D H v1 (fD as f) ∧ Dt K D H v2 (fD bs g) ∧ TsK j as f ∧ TsK k bs g ∧ 0 < j ∧ 0 < k ∧ j + k + 1 ≤ 1900 ∧ ns.length ≤ 6 ∧ (∀ t ∈ as, t.1 ∈ ns) ∧ (∀ t ∈ bs, t.1 ∈ ns) ∧
  ∀ v zs h H', Dt K D H' v (fD zs h) → TsK (j + k + 1) zs h → NZ zs → (∀ t ∈ zs, t.1 ∈ ns) → (∀ x, cT zs x = cT as x + cT bs x) → rv h = rv f + rv g → Evl.Ex H H' → Q v H'
theorem catA_ok {K : PySem.W.Frag} {H : Hp} {Q : VK} {a b : Addr} {xs ys : List V} (ha : SqT K H a xs) (hb : SqT K H b ys) (l : xs.length + ys.length ≤ sizeLine) (q : ∀ p H', Evl.Ex H H' → SqT K H' p (xs ++ ys) → Q (.ref p) H') : rCatA K (.ref a) (.ref b) H Q :=
  ⟨a, b, xs, ys, rfl, rfl, ha, hb, l, fun e => by
    subst e
    exact q b H (.refl _) hb, fun _ e => by
    subst e
    rw [List.append_nil] at q
    exact q a H (.refl _) ha, fun _ _ p np => q p _ (ex_new np) (SqT.of upd_same)⟩
/-- two rows of terms, one behind the other, up to a place -/
def upTo (as bs : List Tm) (i : Nat) (x : Str) : Rat := rv (cfT (as.take i) x) + rv (cfT (bs.take (i - as.length)) x)
theorem upTo_next {as bs : List Tm} (na : (as.map (·.1)).Nodup) (nb : (bs.map (·.1)).Nodup) {i : Nat} {t : Tm} (h : (as ++ bs)[i]? = some t) (x : Str) : upTo as bs (i + 1) x = upTo as bs i x + if t.1 = x then rv t.2 else 0 := by
  unfold upTo
  by_cases l : i < as.length
  · rw [List.getElem?_append_left l] at h
    rw [cf_next na h x, show i + 1 - as.length = 0 by omega, show i - as.length = 0 by omega]
    grind
  · rw [List.getElem?_append_right (by omega)] at h
    rw [List.take_of_length_le (by omega : as.length ≤ i), List.take_of_length_le (by omega : as.length ≤ i + 1), show i + 1 - as.length = (i - as.length) + 1 by omega, cf_next nb h x]
    grind
theorem upTo_sm {ns : List Str} {as bs : List Tm} {f g v : Int × Int} {j k i : Nat} {x : Str} (a : TsK j as f) (b : TsK k bs g) (un : ns.length ≤ 6) (sa : ∀ t ∈ as, t.1 ∈ ns) (sb : ∀ t ∈ bs, t.1 ∈ ns) (k0 : 0 < j) (lv : Lowt v) (e : rv v = upTo as bs i x) : Sm (j + k + 1) v := by
  obtain ⟨t, c, _⟩ := add_ok2 (a.take i) (b.take (i - as.length)) un (fun t ht => sa t (List.mem_of_mem_take ht)) (fun t ht => sb t (List.mem_of_mem_take ht)) k0
  have z1 : Sm (j + k + 1) ((0, 1) : Int × Int) := ⟨Nat.pow_pos (by decide), Nat.one_lt_two_pow (by omega), (by decide : (0 : Int) < 1)⟩
  have lo : Lowt (cfT (addL (as.take i) (bs.take (i - as.length))) x) := cfT_all (P := Lowt) (fun u hu => ⟨(t.s u hu).p, t.g u hu⟩) lw_01 x
  have ev : v = cfT (addL (as.take i) (bs.take (i - as.length))) x := rv_inj lv lo (e.trans (c x).symm)
  rw [ev]
  exact cfT_all (P := Sm (j + k + 1)) t.s z1 x
theorem upTo_all {as bs : List Tm} {x : Str} : upTo as bs (as.length + bs.length) x = cT as x + cT bs x := by
  unfold upTo cT
  rw [List.take_of_length_le (by omega), List.take_of_length_le (by omega)]
theorem eqv_zero {g : Int × Int} (lo : Lowt g) : (!PyData.eqv (frD g) (frD (0, 1))) = decide (g.1 ≠ 0) := by
  rw [eqv_fr]
  have fp := lo.p
  have gg := lo.g
  by_cases z : g.1 = 0
  · rw [z, Int.natAbs_zero, Nat.gcd_zero_left] at gg
    have : g.2 = 1 := by omega
    rw [z, this]
    rfl
  · rw [decide_eq_true z, decide_eq_false (fun a => z a.1)]
    rfl
theorem cr_isiK {X : Cx} (K : PySem.W.Frag) (h : X.K = K) : CallR X (.builtin "isinstance") (rIsi K) := h ▸ call_isi
end Qj
namespace Qj
open PySem PySem.Spec PyProof.Rows L2
theorem cut_butlast {xs : List V} (h : 0 < xs.length) : cutV xs none (some (-1)) = xs.take (xs.length - 1) := by
  unfold cutV
  rw [HT.sIx_none]
  show (xs.drop 0).take ((if (-1 : Int) < 0 then ((-1 : Int) + (xs.length : Int)).toNat else min (-1 : Int).toNat xs.length) - 0) = _
  rw [if_pos (by decide), List.drop_zero]
  congr 1
  omega
theorem slButlast {K : PySem.W.Frag} {D : Addr} {H : Hp} {v : V} {ds : List PyData} {Q : VK} (h : Dt K D H v (.tuple ds)) (l : 0 < ds.length) (q : ∀ (p : Addr) (H' : Hp), Dt K D H' (.ref p) (.tuple (ds.take (ds.length - 1))) → Evl.Ex H H' → Q (.ref p) H') : rSlA K v none (some (-1)) H Q := by
  obtain ⟨a, xs, rfl, t, g⟩ := h.tupA
  have lx := g.len
  refine ⟨a, xs, rfl, t, fun z => ?_, fun z p np => ?_⟩
  · have z2 : ((-1 : Int) + (xs.length : Int)).toNat = xs.length := z.2
    omega
  · rw [cut_butlast (by omega)]
    refine q p _ (.tup (SqT.of upd_same) ?_) (ex_new np)
    rw [lx]
    exact (g.ex (ex_new np)).take _
theorem catA_dt {K : PySem.W.Frag} {D : Addr} {H : Hp} {Q : VK} {v w : V} {ds es : List PyData} (h : Dt K D H v (.tuple ds)) (g : Dt K D H w (.tuple es)) (l : ds.length + es.length ≤ 1000) (q : ∀ p H', Evl.Ex H H' → Dt K D H' (.ref p) (.tuple (ds ++ es)) → Q (.ref p) H') : rCatA K v w H Q := by
  obtain ⟨a, xs, rfl, tx, gx⟩ := h.tupA
  obtain ⟨b, ys, rfl, ty, gy⟩ := g.tupA
  have lx := gx.len
  have ly := gy.len
  exact catA_ok tx ty (by rw [sizeLine_eq]; omega) fun p H' e s => q p H' e (.tup s ((gx.ex e).app (gy.ex e)))
theorem papOk_tup {ds : List PyData} (l : ds.length ≤ 20) (s : ∀ d ∈ ds, shD d = true) (b : ∀ i, PyData.int i ∈ ds → i.natAbs < 2 ^ 5) : PapOk (.tuple ds) := by
  refine ⟨shA_all.mpr s, fun es e => by cases e; exact l, fun js e j hj => ?_⟩
  injection e with e
  exact b j (by rw [e]; exact List.mem_map.mpr ⟨j, hj, rfl⟩)
theorem papOk_ints {js : List Int} (l : js.length ≤ 20) (b : ∀ j ∈ js, j.natAbs < 2 ^ 5) : PapOk (.tuple (js.map .int)) := papOk_tup (by rw [List.length_map]; exact l) (fun d hd => by
  obtain ⟨j, _, rfl⟩ := List.mem_map.mp hd
  rfl) fun i hi => by
  obtain ⟨j, hj, e⟩ := List.mem_map.mp hi
  cases e
  exact b _ hj
theorem papOk_of {d : PyData} (s : shD d = true) (n : ∀ ds, d ≠ .tuple ds) : PapOk d := ⟨s, fun ds e => absurd e (n ds), fun js e => absurd e (n _)⟩
theorem noLA_ints (js : List Int) : noLA (js.map PyData.int) = true := noLA_of fun d hd => by
  obtain ⟨j, _, rfl⟩ := List.mem_map.mp hd
  rfl
theorem ints_dt {K : PySem.W.Frag} {D : Addr} {H : Hp} : ∀ (js : List Int), DtA K D H (js.map V.int) (js.map PyData.int)
  | [] => .nil
  | _ :: r => .cons (.int _) (ints_dt r)
theorem noLA_mem {ds : List PyData} (h : noLA ds = true) : ∀ d ∈ ds, noL d = true := by
  induction ds with
  | nil => exact fun _ h => nomatch h
  | cons d r ih =>
    have h2 : (noL d && noLA r) = true := h
    rw [Bool.and_eq_true] at h2
    intro x hx
    rcases List.mem_cons.mp hx with rfl | hx
    · exact h2.1
    · exact ih h2.2 x hx
theorem flat_rep {x : V} : ∀ n : Nat, (List.replicate n [x]).flatten = List.replicate n x
  | 0 => rfl
  | n + 1 => by
    rw [List.replicate_succ, List.flatten_cons, flat_rep n, List.replicate_succ]
    rfl
theorem rep_ints (i : Int) (n : Nat) : List.replicate n (V.int i) = (List.replicate n i).map V.int := by rw [List.map_replicate]
/-- the seven odd things in the place of a -/
def oddD (a : Int) : List PyData := [.int (a + 1), .int (a - 1), .int (-a), .bool true, .none, .str (toString a), .tuple [.int a, .int 1]]
def spPapers (K : PySem.W.Frag) : Sp := fun vs H Q _ => ∃ (D L p : Addr) (xs : List V) (js : List Int), vs = [.ref D, .ref L, .ref p] ∧ DeckAt H D ∧ H L = some (.lst xs) ∧ L ≠ D ∧ xs.length ≤ 8 ∧ SqT K H p (js.map V.int) ∧ 0 < js.length ∧ js.length ≤ 8 ∧ (∀ j ∈ js, 0 ≤ j ∧ j ≤ 3) ∧
  ∀ (M : Addr) (vs : List V) (ds : List PyData) (H' : Hp), H' M = some (.lst vs) → DtA K D H' vs ds → (∀ d ∈ ds, PapOk d) → ds.length ≤ 30 → Bu D H H' → DeckAt H' D → Q (.ref M) H'
end Qj
namespace Qj
open PySem PySem.Spec PyProof.Rows L2
def Ga0 (K : PySem.W.Frag) (C a D : Addr) : L2.St → Hp → Prop := fun σ G => ∃ x2 x3 x4 x5 x6 x7 x8 x9 x10 x11 x12 x13 x14 x15, σ = [some (.ref a), some (.ref D), x2, x3, x4, x5, x6, x7, x8, x9, x10, x11, x12, x13, x14, x15] ∧ (DeckAt G D)
def Ga1 (K : PySem.W.Frag) (C a D : Addr) : L2.St → Hp → Prop := fun σ G => ∃ x2 x4 x5 x6 x7 x8 x9 x10 x11 x12 x13 x14 x15, ∃ (F : Addr), ∃ (ns : List Str), σ = [some (.ref a), some (.ref D), x2, some (.ref F), x4, x5, x6, x7, x8, x9, x10, x11, x12, x13, x14, x15] ∧ (DeckAt G D) ∧ (G F = some (.lst (ns.map V.str))) ∧ (F ≠ D) ∧ (ns.length ≤ 3) ∧ (∀ x ∈ ns, Nm x) ∧ (ns.Nodup)
def Ga8 (K : PySem.W.Frag) (C a D : Addr) : L2.St → Hp → Prop := fun σ G => ∃ x2 x7 x8 x9 x10 x11 x12 x13 x14 x15, ∃ (F : Addr), ∃ (ns : List Str), ∃ (L : Addr), ∃ (vl : List V), ∃ (cs : List Cnd), ∃ (p : Addr), ∃ (js : List Int), ∃ (v : V), ∃ (ts : List Tm), ∃ (c : Int × Int), σ = [some (.ref a), some (.ref D), x2, some (.ref F), some (.ref L), some (.ref p), some (v), x7, x8, x9, x10, x11, x12, x13, x14, x15] ∧ (DeckAt G D) ∧ (G F = some (.lst (ns.map V.str))) ∧ (F ≠ D) ∧ (ns.length ≤ 3) ∧ (∀ x ∈ ns, Nm x) ∧ (ns.Nodup) ∧ (G L = some (.lst vl)) ∧ (L ≠ D) ∧ (L ≠ F) ∧ (DtA K D G vl (cs.map cD)) ∧ (cs.length ≤ 5) ∧ (∀ c ∈ cs, CdOk 62 ns c) ∧ (SqT K G p (js.map V.int)) ∧ (js.length = cs.length) ∧ (∀ j ∈ js, 0 ≤ j ∧ j ≤ 3) ∧ (Dt K D G v (fD ts c)) ∧ (TsK (36) ts c) ∧ (NZ ts) ∧ (∀ t ∈ ts, t.1 ∈ ns)
def Ga9 (K : PySem.W.Frag) (C a D : Addr) : L2.St → Hp → Prop := fun σ G => ∃ x2 x7 x8 x9 x10 x12 x13 x14 x15, ∃ (F : Addr), ∃ (ns : List Str), ∃ (L : Addr), ∃ (vl : List V), ∃ (cs : List Cnd), ∃ (p : Addr), ∃ (js : List Int), ∃ (v : V), ∃ (ts : List Tm), ∃ (c : Int × Int), ∃ (pm : Addr), ∃ (x : Int × Int), σ = [some (.ref a), some (.ref D), x2, some (.ref F), some (.ref L), some (.ref p), some (v), x7, x8, x9, x10, some (.ref pm), x12, x13, x14, x15] ∧ (DeckAt G D) ∧ (G F = some (.lst (ns.map V.str))) ∧ (F ≠ D) ∧ (ns.length ≤ 3) ∧ (∀ x ∈ ns, Nm x) ∧ (ns.Nodup) ∧ (G L = some (.lst vl)) ∧ (L ≠ D) ∧ (L ≠ F) ∧ (DtA K D G vl (cs.map cD)) ∧ (cs.length ≤ 5) ∧ (∀ c ∈ cs, CdOk 62 ns c) ∧ (SqT K G p (js.map V.int)) ∧ (js.length = cs.length) ∧ (∀ j ∈ js, 0 ≤ j ∧ j ≤ 3) ∧ (Dt K D G v (fD ts c)) ∧ (TsK (36) ts c) ∧ (NZ ts) ∧ (∀ t ∈ ts, t.1 ∈ ns) ∧ (FrA K G pm x) ∧ (Sm 3 x) ∧ (Nat.gcd x.1.natAbs x.2.natAbs = 1)
def Ga10 (K : PySem.W.Frag) (C a D : Addr) : L2.St → Hp → Prop := fun σ G => ∃ x2 x6 x7 x8 x9 x10 x11 x12 x13 x14 x15, ∃ (F : Addr), ∃ (ns : List Str), ∃ (L : Addr), ∃ (vl : List V), ∃ (cs : List Cnd), ∃ (p : Addr), ∃ (js : List Int), σ = [some (.ref a), some (.ref D), x2, some (.ref F), some (.ref L), some (.ref p), x6, x7, x8, x9, x10, x11, x12, x13, x14, x15] ∧ (DeckAt G D) ∧ (G F = some (.lst (ns.map V.str))) ∧ (F ≠ D) ∧ (ns.length ≤ 3) ∧ (∀ x ∈ ns, Nm x) ∧ (ns.Nodup) ∧ (G L = some (.lst vl)) ∧ (L ≠ D) ∧ (L ≠ F) ∧ (DtA K D G vl (cs.map cD)) ∧ (cs.length ≤ 6) ∧ (∀ c ∈ cs, CdOk 62 ns c) ∧ (SqT K G p (js.map V.int)) ∧ (js.length + 1 = cs.length) ∧ (∀ j ∈ js, 0 ≤ j ∧ j ≤ 3)
def Ga11 (K : PySem.W.Frag) (C a D : Addr) : L2.St → Hp → Prop := fun σ G => ∃ x2 x6 x7 x8 x9 x10 x11 x12 x13 x14 x15, ∃ (F : Addr), ∃ (ns : List Str), ∃ (L : Addr), ∃ (vl : List V), ∃ (cs : List Cnd), ∃ (p : Addr), ∃ (js : List Int), σ = [some (.ref a), some (.ref D), x2, some (.ref F), some (.ref L), some (.ref p), x6, x7, x8, x9, x10, x11, x12, x13, x14, x15] ∧ (DeckAt G D) ∧ (G F = some (.lst (ns.map V.str))) ∧ (F ≠ D) ∧ (ns.length ≤ 3) ∧ (∀ x ∈ ns, Nm x) ∧ (ns.Nodup) ∧ (G L = some (.lst vl)) ∧ (L ≠ D) ∧ (L ≠ F) ∧ (DtA K D G vl (cs.map cD)) ∧ (cs.length ≤ 6) ∧ (∀ c ∈ cs, CdOk 62 ns c) ∧ (SqT K G p (js.map V.int)) ∧ (js.length = cs.length) ∧ (∀ j ∈ js, 0 ≤ j ∧ j ≤ 3) ∧ (0 < js.length)
def Ga12 (K : PySem.W.Frag) (C a D : Addr) : L2.St → Hp → Prop := fun σ G => ∃ x2 x6 x7 x8 x9 x10 x11 x13 x14 x15, ∃ (F : Addr), ∃ (ns : List Str), ∃ (L : Addr), ∃ (vl : List V), ∃ (cs : List Cnd), ∃ (p : Addr), ∃ (js : List Int), ∃ (pc : Addr), ∃ (ds : List Cnd), σ = [some (.ref a), some (.ref D), x2, some (.ref F), some (.ref L), some (.ref p), x6, x7, x8, x9, x10, x11, some (.ref pc), x13, x14, x15] ∧ (DeckAt G D) ∧ (G F = some (.lst (ns.map V.str))) ∧ (F ≠ D) ∧ (ns.length ≤ 3) ∧ (∀ x ∈ ns, Nm x) ∧ (ns.Nodup) ∧ (G L = some (.lst vl)) ∧ (L ≠ D) ∧ (L ≠ F) ∧ (DtA K D G vl (cs.map cD)) ∧ (cs.length ≤ 6) ∧ (∀ c ∈ cs, CdOk 62 ns c) ∧ (SqT K G p (js.map V.int)) ∧ (js.length = cs.length) ∧ (∀ j ∈ js, 0 ≤ j ∧ j ≤ 3) ∧ (0 < js.length) ∧ (CondAt K C D 62 G pc ds) ∧ (Paired Mk cs ds)
def Gb0 (K : PySem.W.Frag) (C a D : Addr) (n : Nat) : L2.St → Hp → Prop := fun σ G => ∃ x2 x8 x9 x10 x11 x12 x13 x14 x15, ∃ (F : Addr), ∃ (ns : List Str), ∃ (L : Addr), ∃ (vl : List V), ∃ (cs : List Cnd), ∃ (p : Addr), ∃ (js : List Int), ∃ (v : V), ∃ (ts : List Tm), ∃ (c : Int × Int), ∃ (b : Bool), σ = [some (.ref a), some (.ref D), x2, some (.ref F), some (.ref L), some (.ref p), some (v), some (.bl b), x8, x9, x10, x11, x12, x13, x14, x15] ∧ (DeckAt G D) ∧ (G F = some (.lst (ns.map V.str))) ∧ (F ≠ D) ∧ (ns.length ≤ 3) ∧ (∀ x ∈ ns, Nm x) ∧ (ns.Nodup) ∧ (G L = some (.lst vl)) ∧ (L ≠ D) ∧ (L ≠ F) ∧ (DtA K D G vl (cs.map cD)) ∧ (cs.length = n) ∧ (∀ c ∈ cs, CdOk 62 ns c) ∧ (SqT K G p (js.map V.int)) ∧ (js.length = n) ∧ (∀ j ∈ js, 0 ≤ j ∧ j ≤ 3) ∧ (Dt K D G v (fD ts c)) ∧ (TsK (1 + 7 * n) ts c) ∧ (NZ ts) ∧ (∀ t ∈ ts, t.1 ∈ ns)
def Gb1 (K : PySem.W.Frag) (C a D : Addr) (n : Nat) : L2.St → Hp → Prop := fun σ G => ∃ x2 x8 x10 x11 x12 x13 x14 x15, ∃ (F : Addr), ∃ (ns : List Str), ∃ (L : Addr), ∃ (vl : List V), ∃ (cs : List Cnd), ∃ (p : Addr), ∃ (js : List Int), ∃ (v : V), ∃ (ts : List Tm), ∃ (c : Int × Int), ∃ (b : Bool), ∃ (w : V), ∃ (c2 : Cnd), σ = [some (.ref a), some (.ref D), x2, some (.ref F), some (.ref L), some (.ref p), some (v), some (.bl b), x8, some (w), x10, x11, x12, x13, x14, x15] ∧ (DeckAt G D) ∧ (G F = some (.lst (ns.map V.str))) ∧ (F ≠ D) ∧ (ns.length ≤ 3) ∧ (∀ x ∈ ns, Nm x) ∧ (ns.Nodup) ∧ (G L = some (.lst vl)) ∧ (L ≠ D) ∧ (L ≠ F) ∧ (DtA K D G vl (cs.map cD)) ∧ (cs.length = n) ∧ (∀ c ∈ cs, CdOk 62 ns c) ∧ (SqT K G p (js.map V.int)) ∧ (js.length = n) ∧ (∀ j ∈ js, 0 ≤ j ∧ j ≤ 3) ∧ (Dt K D G v (fD ts c)) ∧ (TsK (1 + 7 * n) ts c) ∧ (NZ ts) ∧ (∀ t ∈ ts, t.1 ∈ ns) ∧ (Dt K D G w (cD c2)) ∧ (CdOk 3 ns c2)
def Gb2 (K : PySem.W.Frag) (C a D : Addr) (n : Nat) : L2.St → Hp → Prop := fun σ G => ∃ x2 x8 x11 x12 x13 x14 x15, ∃ (F : Addr), ∃ (ns : List Str), ∃ (L : Addr), ∃ (vl : List V), ∃ (cs : List Cnd), ∃ (p : Addr), ∃ (js : List Int), ∃ (v : V), ∃ (ts : List Tm), ∃ (c : Int × Int), ∃ (b : Bool), ∃ (w : V), ∃ (c2 : Cnd), ∃ (o : Int), σ = [some (.ref a), some (.ref D), x2, some (.ref F), some (.ref L), some (.ref p), some (v), some (.bl b), x8, some (w), some (.int o), x11, x12, x13, x14, x15] ∧ (DeckAt G D) ∧ (G F = some (.lst (ns.map V.str))) ∧ (F ≠ D) ∧ (ns.length ≤ 3) ∧ (∀ x ∈ ns, Nm x) ∧ (ns.Nodup) ∧ (G L = some (.lst vl)) ∧ (L ≠ D) ∧ (L ≠ F) ∧ (DtA K D G vl (cs.map cD)) ∧ (cs.length = n) ∧ (∀ c ∈ cs, CdOk 62 ns c) ∧ (SqT K G p (js.map V.int)) ∧ (js.length = n) ∧ (∀ j ∈ js, 0 ≤ j ∧ j ≤ 3) ∧ (Dt K D G v (fD ts c)) ∧ (TsK (1 + 7 * n) ts c) ∧ (NZ ts) ∧ (∀ t ∈ ts, t.1 ∈ ns) ∧ (Dt K D G w (cD c2)) ∧ (CdOk 3 ns c2) ∧ (0 ≤ o) ∧ (o < 4)
def Gb3 (K : PySem.W.Frag) (C a D : Addr) (n : Nat) : L2.St → Hp → Prop := fun σ G => ∃ x2 x8 x11 x12 x13 x14 x15, ∃ (F : Addr), ∃ (ns : List Str), ∃ (L : Addr), ∃ (vl : List V), ∃ (cs : List Cnd), ∃ (p : Addr), ∃ (js : List Int), ∃ (v : V), ∃ (ts : List Tm), ∃ (c : Int × Int), ∃ (b : Bool), ∃ (w : V), ∃ (c2 : Cnd), ∃ (o : Int), σ = [some (.ref a), some (.ref D), x2, some (.ref F), some (.ref L), some (.ref p), some (v), some (.bl b), x8, some (w), some (.int o), x11, x12, x13, x14, x15] ∧ (DeckAt G D) ∧ (G F = some (.lst (ns.map V.str))) ∧ (F ≠ D) ∧ (ns.length ≤ 3) ∧ (∀ x ∈ ns, Nm x) ∧ (ns.Nodup) ∧ (G L = some (.lst vl)) ∧ (L ≠ D) ∧ (L ≠ F) ∧ (DtA K D G vl (cs.map cD)) ∧ (cs.length = n) ∧ (∀ c ∈ cs, CdOk 62 ns c) ∧ (SqT K G p (js.map V.int)) ∧ (js.length = n) ∧ (∀ j ∈ js, 0 ≤ j ∧ j ≤ 3) ∧ (Dt K D G w (cD c2)) ∧ (CdOk 3 ns c2) ∧ (0 ≤ o) ∧ (o < 4) ∧ (Dt K D G v (fD ts c)) ∧ (TsK (1 + 7 * (n + 1)) ts c) ∧ (NZ ts) ∧ (∀ t ∈ ts, t.1 ∈ ns)
def Gb4 (K : PySem.W.Frag) (C a D : Addr) (n : Nat) : L2.St → Hp → Prop := fun σ G => ∃ x2 x8 x11 x12 x13 x14 x15, ∃ (F : Addr), ∃ (ns : List Str), ∃ (L : Addr), ∃ (vl : List V), ∃ (cs : List Cnd), ∃ (p : Addr), ∃ (js : List Int), ∃ (v : V), ∃ (ts : List Tm), ∃ (c : Int × Int), ∃ (b : Bool), ∃ (w : V), ∃ (c2 : Cnd), ∃ (o : Int), σ = [some (.ref a), some (.ref D), x2, some (.ref F), some (.ref L), some (.ref p), some (v), some (.bl b), x8, some (w), some (.int o), x11, x12, x13, x14, x15] ∧ (DeckAt G D) ∧ (G F = some (.lst (ns.map V.str))) ∧ (F ≠ D) ∧ (ns.length ≤ 3) ∧ (∀ x ∈ ns, Nm x) ∧ (ns.Nodup) ∧ (G L = some (.lst vl)) ∧ (L ≠ D) ∧ (L ≠ F) ∧ (DtA K D G vl (cs.map cD)) ∧ (∀ c ∈ cs, CdOk 62 ns c) ∧ (SqT K G p (js.map V.int)) ∧ (js.length = n) ∧ (∀ j ∈ js, 0 ≤ j ∧ j ≤ 3) ∧ (Dt K D G w (cD c2)) ∧ (CdOk 3 ns c2) ∧ (0 ≤ o) ∧ (o < 4) ∧ (Dt K D G v (fD ts c)) ∧ (TsK (1 + 7 * (n + 1)) ts c) ∧ (NZ ts) ∧ (∀ t ∈ ts, t.1 ∈ ns) ∧ (cs.length = n + 1)
end Qj
namespace K10
open PySem PySem.Spec PyProof.Rows L2 Qj
def topS (i : Nat) : Stmt := PySem.Challenge.pw_offscale_k10_papers_judged.main.body.getD i (.Pass ⟨0, 0, 0, 0⟩)
abbrev s_is_whole : Stmt := topS 6
theorem sc_is_whole : FnScope ["value"] ["value"] (defScope s_is_whole) := ⟨rfl, rfl, rfl, by decide +kernel, rfl, by decide +kernel, by decide +kernel⟩
abbrev s_is_fraction : Stmt := topS 7
theorem sc_is_fraction : FnScope ["value", "top", "bottom"] ["value"] (defScope s_is_fraction) := ⟨rfl, rfl, rfl, by decide +kernel, rfl, by decide +kernel, by decide +kernel⟩
abbrev s__lowest : Stmt := topS 8
theorem sc__lowest : FnScope ["top", "bottom", "divisor"] ["top", "bottom"] (defScope s__lowest) := ⟨rfl, rfl, rfl, by decide +kernel, rfl, by decide +kernel, by decide +kernel⟩
abbrev s_plus : Stmt := topS 9
theorem sc_plus : FnScope ["one", "other"] ["one", "other"] (defScope s_plus) := ⟨rfl, rfl, rfl, by decide +kernel, rfl, by decide +kernel, by decide +kernel⟩
abbrev s_times : Stmt := topS 10
theorem sc_times : FnScope ["one", "other"] ["one", "other"] (defScope s_times) := ⟨rfl, rfl, rfl, by decide +kernel, rfl, by decide +kernel, by decide +kernel⟩
abbrev s_is_name : Stmt := topS 14
theorem sc_is_name : FnScope ["value"] ["value"] (defScope s_is_name) := ⟨rfl, rfl, rfl, by decide +kernel, rfl, by decide +kernel, by decide +kernel⟩
abbrev s__is_word : Stmt := topS 15
theorem sc__is_word : FnScope ["value", "letters", "letter"] ["value", "letters"] (defScope s__is_word) := ⟨rfl, rfl, rfl, by decide +kernel, rfl, by decide +kernel, by decide +kernel⟩
abbrev s__are_terms : Stmt := topS 18
theorem sc__are_terms : FnScope ["value", "item"] ["value"] (defScope s__are_terms) := ⟨rfl, rfl, rfl, by decide +kernel, rfl, by decide +kernel, by decide +kernel⟩
abbrev s__is_term : Stmt := topS 19
theorem sc__is_term : FnScope ["value"] ["value"] (defScope s__is_term) := ⟨rfl, rfl, rfl, by decide +kernel, rfl, by decide +kernel, by decide +kernel⟩
abbrev s_never_holds : Stmt := topS 22
theorem sc_never_holds : FnScope ["conditions", "value", "whole", "form", "_", "share", "top", "strictly", "strict"] ["conditions", "value"] (defScope s_never_holds) := ⟨rfl, rfl, rfl, by decide +kernel, rfl, by decide +kernel, by decide +kernel⟩
abbrev s__are_shares : Stmt := topS 23
theorem sc__are_shares : FnScope ["value", "many", "share"] ["value", "many"] (defScope s__are_shares) := ⟨rfl, rfl, rfl, by decide +kernel, rfl, by decide +kernel, by decide +kernel⟩
abbrev s__law_deck : Stmt := topS 25
theorem sc__law_deck : FnScope ["_law_script", "_law_great", "_law_small_here", "_law_cell"] ["_law_script"] (defScope s__law_deck) := ⟨rfl, rfl, rfl, by decide +kernel, rfl, by decide +kernel, by decide +kernel⟩
abbrev s__law_take : Stmt := topS 26
theorem sc__law_take : FnScope ["_law_deck_here", "_law_limit", "_law_digit", "_law_mixed"] ["_law_deck_here", "_law_limit"] (defScope s__law_take) := ⟨rfl, rfl, rfl, by decide +kernel, rfl, by decide +kernel, by decide +kernel⟩
abbrev s__law_frac : Stmt := topS 27
theorem sc__law_frac : FnScope ["_law_top", "_law_bottom", "_law_one", "_law_other", "_law_sign"] ["_law_top", "_law_bottom"] (defScope s__law_frac) := ⟨rfl, rfl, rfl, by decide +kernel, rfl, by decide +kernel, by decide +kernel⟩
abbrev s__law_plus : Stmt := topS 28
theorem sc__law_plus : FnScope ["_law_one", "_law_other"] ["_law_one", "_law_other"] (defScope s__law_plus) := ⟨rfl, rfl, rfl, by decide +kernel, rfl, by decide +kernel, by decide +kernel⟩
abbrev s__law_times : Stmt := topS 30
theorem sc__law_times : FnScope ["_law_one", "_law_other"] ["_law_one", "_law_other"] (defScope s__law_times) := ⟨rfl, rfl, rfl, by decide +kernel, rfl, by decide +kernel, by decide +kernel⟩
abbrev s__law_names : Stmt := topS 32
theorem sc__law_names : FnScope ["_law_deck_here", "_law_letters", "_law_start", "_law_found", "_law_k", "_law_name", "_law_j"] ["_law_deck_here"] (defScope s__law_names) := ⟨rfl, rfl, rfl, by decide +kernel, rfl, by decide +kernel, by decide +kernel⟩
abbrev s__law_small : Stmt := topS 33
theorem sc__law_small : FnScope ["_law_deck_here"] ["_law_deck_here"] (defScope s__law_small) := ⟨rfl, rfl, rfl, by decide +kernel, rfl, by decide +kernel, by decide +kernel⟩
abbrev s__law_pair : Stmt := topS 34
theorem sc__law_pair : FnScope ["_law_deck_here", "_law_names_here", "_law_terms", "_law_name", "_law_pair_here"] ["_law_deck_here", "_law_names_here"] (defScope s__law_pair) := ⟨rfl, rfl, rfl, by decide +kernel, rfl, by decide +kernel, by decide +kernel⟩
abbrev s__law_scaled : Stmt := topS 36
theorem sc__law_scaled : FnScope ["_law_terms", "_law_constant", "_law_share", "_law_name", "_law_factor"] ["_law_terms", "_law_constant", "_law_share"] (defScope s__law_scaled) := ⟨rfl, rfl, rfl, by decide +kernel, rfl, by decide +kernel, by decide +kernel⟩
abbrev s__law_added : Stmt := topS 37
theorem sc__law_added : FnScope ["_law_one", "_law_other", "_law_names_here", "_law_terms", "_law_name", "_law_factor", "_law_own", "_law_share", "_law_pair_here"] ["_law_one", "_law_other"] (defScope s__law_added) := ⟨rfl, rfl, rfl, by decide +kernel, rfl, by decide +kernel, by decide +kernel⟩
abbrev s__law_adds_up : Stmt := topS 39
theorem sc__law_adds_up : FnScope ["_law_pairs", "_law_paper", "_law_found", "_law_is_strict", "_law_k", "_law_one"] ["_law_pairs", "_law_paper"] (defScope s__law_adds_up) := ⟨rfl, rfl, rfl, by decide +kernel, rfl, by decide +kernel, by decide +kernel⟩
abbrev s__law_papers : Stmt := topS 41
theorem sc__law_papers : FnScope ["_law_deck_here", "_law_pairs", "_law_paper", "_law_slot", "_law_odd", "_law_one", "_law_found", "_law_pair_here"] ["_law_deck_here", "_law_pairs", "_law_paper"] (defScope s__law_papers) := ⟨rfl, rfl, rfl, by decide +kernel, rfl, by decide +kernel, by decide +kernel⟩
abbrev s_law : Stmt := topS 42
theorem sc_law : FnScope ["_law_script", "_law_deck_here", "_law_turn", "_law_names_here", "_law_pairs", "_law_paper", "_law_sums", "_law_is_strict", "_law_k", "_law_pair_here", "_law_often", "_law_more", "_law_conditions", "_law_value_here", "_law_form", "_law_strict"] ["_law_script"] (defScope s_law) := ⟨rfl, rfl, rfl, by decide +kernel, rfl, by decide +kernel, by decide +kernel⟩
abbrev s_Form___init__ : Stmt := inClass (topS 17) 0
theorem sc_Form___init__ : FnScope ["self", "terms", "constant", "term"] ["self", "terms", "constant"] (defScope s_Form___init__) := ⟨rfl, rfl, rfl, by decide +kernel, rfl, by decide +kernel, by decide +kernel⟩
abbrev s_Form_terms : Stmt := inClass (topS 17) 1
theorem sc_Form_terms : FnScope ["self"] ["self"] (defScope s_Form_terms) := ⟨rfl, rfl, rfl, by decide +kernel, rfl, by decide +kernel, by decide +kernel⟩
abbrev s_Form_constant : Stmt := inClass (topS 17) 2
theorem sc_Form_constant : FnScope ["self"] ["self"] (defScope s_Form_constant) := ⟨rfl, rfl, rfl, by decide +kernel, rfl, by decide +kernel, by decide +kernel⟩
abbrev s_Form___add__ : Stmt := inClass (topS 17) 7
theorem sc_Form___add__ : FnScope ["self", "other", "factors", "name", "factor"] ["self", "other"] (defScope s_Form___add__) := ⟨rfl, rfl, rfl, by decide +kernel, rfl, by decide +kernel, by decide +kernel⟩
abbrev s_Form___mul__ : Stmt := inClass (topS 17) 10
theorem sc_Form___mul__ : FnScope ["self", "other", "terms", "name", "factor"] ["self", "other"] (defScope s_Form___mul__) := ⟨rfl, rfl, rfl, by decide +kernel, rfl, by decide +kernel, by decide +kernel⟩
/-- what the top has written -/
structure Txt (K : PySem.W.Frag) (mg : Str → Option Value) where
  is_whole : Def K mg "is_whole" s_is_whole ["value"]
  is_fraction : Def K mg "is_fraction" s_is_fraction ["value"]
  _lowest : Def K mg "_lowest" s__lowest ["top", "bottom"]
  plus : Def K mg "plus" s_plus ["one", "other"]
  times : Def K mg "times" s_times ["one", "other"]
  is_name : Def K mg "is_name" s_is_name ["value"]
  _is_word : Def K mg "_is_word" s__is_word ["value", "letters"]
  _are_terms : Def K mg "_are_terms" s__are_terms ["value"]
  _is_term : Def K mg "_is_term" s__is_term ["value"]
  never_holds : Def K mg "never_holds" s_never_holds ["conditions", "value"]
  _are_shares : Def K mg "_are_shares" s__are_shares ["value", "many"]
  _law_deck : Def K mg "_law_deck" s__law_deck ["_law_script"]
  _law_take : Def K mg "_law_take" s__law_take ["_law_deck_here", "_law_limit"]
  _law_frac : Def K mg "_law_frac" s__law_frac ["_law_top", "_law_bottom"]
  _law_plus : Def K mg "_law_plus" s__law_plus ["_law_one", "_law_other"]
  _law_times : Def K mg "_law_times" s__law_times ["_law_one", "_law_other"]
  _law_names : Def K mg "_law_names" s__law_names ["_law_deck_here"]
  _law_small : Def K mg "_law_small" s__law_small ["_law_deck_here"]
  _law_pair : Def K mg "_law_pair" s__law_pair ["_law_deck_here", "_law_names_here"]
  _law_scaled : Def K mg "_law_scaled" s__law_scaled ["_law_terms", "_law_constant", "_law_share"]
  _law_added : Def K mg "_law_added" s__law_added ["_law_one", "_law_other"]
  _law_adds_up : Def K mg "_law_adds_up" s__law_adds_up ["_law_pairs", "_law_paper"]
  _law_papers : Def K mg "_law_papers" s__law_papers ["_law_deck_here", "_law_pairs", "_law_paper"]
  law : Def K mg "law" s_law ["_law_script"]
  C_Form : Addr
  g_Form : mg "Form" = some (.ref C_Form)
  cl_Form : Cls K C_Form
  kp_Form : PySem.W.keepIn K (.ref C_Form) = true
  nf_Form__terms : NoAttr K C_Form "_terms"
  nf_Form__constant : NoAttr K C_Form "_constant"
  p_Form___init__0 : Addr
  k_Form___init__0 : readK K 9 (.ref p_Form___init__0) = some (.tuple [])
  p_Form___init__1 : Addr
  k_Form___init__1 : readK K 9 (.ref p_Form___init__1) = some (.tuple [.int 0, .int 1])
  Form___init__ : IniD K C_Form "Form.__init__" s_Form___init__ ["self", "terms", "constant"] (.ref p_Form___init__0) (.ref p_Form___init__1)
  mk_Form : Mk K C_Form Form___init__.f
  Form_terms : PDef K C_Form "terms" "Form.terms" s_Form_terms
  Form_constant : PDef K C_Form "constant" "Form.constant" s_Form_constant
  Form___add__ : MDef K C_Form "__add__" "Form.__add__" s_Form___add__ ["self", "other"]
  Form___mul__ : MDef K C_Form "__mul__" "Form.__mul__" s_Form___mul__ ["self", "other"]
  SlideError : Cl K mg "SlideError" veL "ValueError.__new__"
  BadForm : Cl K mg "BadForm" (.ref SlideError.C :: veL) "ValueError.__new__"
  m_NotImplemented : mg "NotImplemented" = none
  m_abs : mg "abs" = none
  m_all : mg "all" = none
  m_any : mg "any" = none
  m_bool : mg "bool" = none
  m_dict : mg "dict" = none
  m_int : mg "int" = none
  m_isinstance : mg "isinstance" = none
  m_len : mg "len" = none
  m_list : mg "list" = none
  m_range : mg "range" = none
  m_repr : mg "repr" = none
  m_set : mg "set" = none
  m_sorted : mg "sorted" = none
  m_str : mg "str" = none
  m_tuple : mg "tuple" = none
  m_zip : mg "zip" = none
  t_LETTERS : Tok
  c_LETTERS : mg "LETTERS" = some (.str "abcdefghijklmnopqrstuvwxyz" t_LETTERS)
  t_LONGEST : Tok
  c_LONGEST : mg "LONGEST" = some (.int 3 t_LONGEST)
  g_gcd : mg "gcd" = some (.builtin "math.gcd")
  x_BadForm : PySem.W.excIn K BadForm.C veL "ValueError.__new__" = true
  s_BadForm : PySem.W.subIn K (.ref BadForm.C) (.type "BaseException") = some true
  own_Form : OwnC K C_Form
end K10
set_option pp.maxSteps 600
set_option pp.deepTerms false
namespace K10
open PySem PySem.Spec PyProof.Rows L2 Qj
local macro_rules | `(tactic| walk_at "go") => `(tactic| repeat (first
  | (refine ⟨_, rfl, ?_⟩)
  | (refine ⟨_, _, rfl, rfl, ?_⟩)
  | (refine ⟨_, _, rfl, ?_⟩)
  | (refine ⟨_, _, _, _, rfl, rfl, SqL.of (by assumption), rfl, ?_⟩)
  | (refine ⟨_, _, _, _, rfl, rfl, SqL.of upd_same, rfl, ?_⟩)
  | (refine ⟨_, _, _, _, rfl, rfl, SqT.of (by assumption), rfl, ?_⟩)
  | (refine ⟨_, _, _, _, rfl, rfl, SqT.of upd_same, rfl, ?_⟩)
  | (refine ⟨_, _, _, _, rfl, rfl, (by assumption), rfl, ?_⟩)
  | (refine ⟨_, _, _, _, rfl, rfl, upd_same, rfl, ?_⟩)
  | (refine ⟨_, _, rfl, Or.inl (by assumption), ?_⟩)
  | (refine ⟨_, _, rfl, Or.inr (SqT.of (by assumption)), ?_⟩)
  | (refine ⟨_, _, rfl, Or.inr (SqT.of upd_same), ?_⟩)
  | (refine ⟨_, _, rfl, Or.inl (SqL.of (by assumption)), ?_⟩)
  | (refine ⟨_, _, rfl, Or.inr (by assumption : SqT _ _ _ _), ?_⟩)
  | (refine ⟨_, _, rfl, (by assumption : SqT _ _ _ _), rfl, ?_⟩)
  | (refine ⟨_, _, rfl, SqT.of upd_same, rfl, ?_⟩)
  | (refine ⟨_, _, rfl, SqT.of (by assumption), rfl, ?_⟩)
  | (refine ⟨_, _, rfl, Kn.int _, ?_⟩)
  | (refine ⟨_, _, rfl, (by assumption : Kn _ _ _), ?_⟩)
  | (refine iteNS rfl ?_)
  | (refine iteF ?_)
  | (refine iteT ?_)
  | (refine Or.inl ⟨_, rfl, ?_⟩)
  | (refine Or.inr ⟨_, rfl, ?_⟩)
  | (refine And.intro sz4 ?_)
  | (refine And.intro (by first | exact rfl | assumption | decide | (show (0 : Int) < _; decide) | exact wide_div (b := 63) (by assumption) (by omega) (by decide) (by decide) | exact wide_div (b := 63) (by decide) (by decide) (by decide) (by decide) | exact Or.inl ⟨by decide, by decide⟩ | exact Or.inr ⟨by decide, by decide⟩ | exact ⟨by decide, by decide, by decide⟩ | exact Or.inl ⟨by omega, by omega⟩ | exact Or.inr ⟨by omega, by omega⟩) ?_)))

section
variable {P : Program} {w : World} {K : PySem.W.Frag} {mg : Str → Option Value} {base : Heap}
theorem ok_is_whole (T : Txt K mg) : FnOk P w K mg base CX0 1 T.is_whole.f T.is_whole.fd ["value"] (spPred K dWhole) := by
  refine T.is_whole.F.ok sc_is_whole (fun vs H Q E h => ?_) (fun cdv A outer s H vs Q E hr h => ?_)
  · obtain ⟨D, v, d, rfl, _⟩ := h
    rfl
  obtain ⟨D, v, d, rfl, hd, _, q1⟩ := h
  have q := q1 H (.refl _)
  have nd := sc_is_whole.nd
  obtain ⟨k, ty, k1, k2, k3, k4⟩ := hd.ty
  refine ⟨_, (pss_one (ps_ret (pe_and (pe_callB call_isi (by rfl) T.m_isinstance (by decide +kernel) (pa_cons (pv 0) (pa_cons (pe_bltn (v := .ty "int") (by rfl) T.m_int (by decide +kernel) rfl) pa_nil))) (pe_one (pe_not (pe_callB call_isi (by rfl) T.m_isinstance (by decide +kernel) (pa_cons (pv 0) (pa_cons (pe_bltn (v := .ty "bool") (by rfl) T.m_bool (by decide +kernel) rfl) pa_nil)))))))), ?_⟩
  walk_at "go"
  refine ⟨_, _, _, _, _, rfl, ClsV.ty _, ty, kd_int _ _, _, rfl, ?_⟩
  rw [k2, k3]
  refine ite2 (fun hc => ?_) (fun hc => ?_)
  · walk_at "go"
    refine ⟨_, _, _, _, _, rfl, ClsV.ty _, ty, kd_bool _ _, ?_⟩
    walk_at "go"
    rw [k3]
    cases d <;> first | exact q | cases hc
  · cases d <;> first | exact q | exact absurd rfl hc
theorem ok_is_fraction (T : Txt K mg) : FnOk P w K mg base CX0 2 T.is_fraction.f T.is_fraction.fd ["value"] (spPred K dFrac) := by
  refine T.is_fraction.F.ok sc_is_fraction (fun vs H Q E h => ?_) (fun cdv A outer s H vs Q E hr h => ?_)
  · obtain ⟨D, v, d, rfl, _⟩ := h
    rfl
  obtain ⟨D, v, d, rfl, hd, hs, q1⟩ := h
  have q := q1 H (.refl _)
  have nd := sc_is_fraction.nd
  obtain ⟨k, ty, k1, k2, k3, k4⟩ := hd.ty
  refine ⟨_, (pss_cons (ps_if (PW.pt (pw_or (pt_not (pt_val (pe_callB call_isi (by rfl) T.m_isinstance (by decide +kernel) (pa_cons (pv 0) (pa_cons (pe_bltn (v := .ty "tuple") (by rfl) T.m_tuple (by decide +kernel) rfl) pa_nil))))) (pw_or1 (pt_cmpR op_ne (pe_callB call_len_seq (by rfl) T.m_len (by decide +kernel) (pa_cons (pv 0) pa_nil)) pe_int (nomark _)))))
        (pss_one (ps_ret pe_bl))
        pss_nil)
      (pss_cons (ps_asg (pv 0) (pg_tup rfl (pgs_cons (pg_name (i := 1) nd rfl (.inl rfl)) (pgs_cons (pg_name (i := 2) nd rfl (.inl rfl)) pgs_nil))))
      (pss_cons (ps_if (PW.pt (pw_or (pt_not (pt_val (pe_call (ok_is_whole T) (hr.mono (by decide)) (by rfl) T.is_whole.g T.is_whole.F.kp T.is_whole.b .nil pass0 (pa_cons (pv 1) pa_nil)))) (pw_or1 (pt_not (pt_val (pe_call (ok_is_whole T) (hr.mono (by decide)) (by rfl) T.is_whole.g T.is_whole.F.kp T.is_whole.b .nil pass0 (pa_cons (pv 2) pa_nil)))))))
        (pss_one (ps_ret pe_bl))
        pss_nil)
      (pss_one (ps_ret (pe_and (pe_cmpR op_ge (pv 2) pe_int (nomark _)) (pe_one (pe_cmpR op_eq (pe_callBfun cr_gcd (by rfl) T.g_gcd (pa_cons (pv 1) (pa_cons (pv 2) pa_nil))) pe_int (nomark _))))))))), ?_⟩
  walk_at "go"
  refine ⟨_, _, _, _, _, rfl, ClsV.ty _, ty, kd_tup _ _, _, rfl, ?_⟩
  rw [k1]
  cases hd with
  | tup h g =>
    refine iteF ?_
    walk_at "go"
    rcases two_or g with ⟨n, e⟩ | ⟨x, y, dx, dy, rfl, rfl, gx, gy⟩
    · refine ite2 (fun hc => ?_) (fun hc => ?_)
      · walk_at "go"
        rw [e] at q
        exact q
      · exact absurd (ne_of_test hc) (by omega)
    · walk_at "go"
      refine ⟨D, _, _, rfl, gx, sh_item (i := 0) hs rfl, fun H1 e1 => ⟨_, rfl, ?_⟩⟩
      have q := q1 H1 e1
      refine ite2 (fun hc => ?_) (fun hc => ?_)
      · walk_at "go"
        rw [frac_no (.inl (not_t hc))] at q
        exact q
      walk_at "go"
      refine ⟨D, _, _, rfl, gy.ex e1, sh_item (i := 1) hs rfl, fun H2 e2 => ⟨_, rfl, ?_⟩⟩
      have q := q1 H2 (e1.trans e2)
      refine ite2 (fun hd => ?_) (fun hd => ?_)
      · walk_at "go"
        rw [frac_no (.inr (not_t hd))] at q
        exact q
      obtain ⟨t, rfl⟩ := whole_of (not_f hc)
      obtain ⟨b, rfl⟩ := whole_of (not_f hd)
      cases gx
      cases gy
      walk_at "go"
      refine ite2 (fun h1 => ?_) (fun h1 => ?_)
      · walk_at "go"
        rw [show dFrac (.tuple [.int t, .int b]) = (decide (1 ≤ b) && decide (((Nat.gcd t.natAbs b.natAbs : Nat) : Int) = 1)) from rfl, h1, Bool.true_and] at q
        rw [Qj.dec_int]
        exact q
      · rw [show dFrac (.tuple [.int t, .int b]) = (decide (1 ≤ b) && decide (((Nat.gcd t.natAbs b.natAbs : Nat) : Int) = 1)) from rfl, Bool.eq_false_iff.mpr h1, Bool.false_and] at q
        exact q
  | _ => first
    | (refine iteT ?_
       walk_at "go"
       exact q)
theorem ok__is_word (T : Txt K mg) : FnOk P w K mg base CX0 1 T._is_word.f T._is_word.fd ["value", "letters"] (spWord K) := by
  refine T._is_word.F.ok sc__is_word (fun vs H Q E h => ?_) (fun cdv A outer s H vs Q E hr h => ?_)
  · obtain ⟨D, v, d, z, rfl, _⟩ := h
    rfl
  obtain ⟨D, v, d, z, rfl, hd, hs, q1⟩ := h
  have q := q1 H (.refl _)
  have nd := sc__is_word.nd
  obtain ⟨k, ty, k1, k2, k3, k4⟩ := hd.ty
  refine ⟨_, (pss_cons (ps_if (PW.pt (pw_or (pt_not (pt_val (pe_callB call_isi (by rfl) T.m_isinstance (by decide +kernel) (pa_cons (pv 0) (pa_cons (pe_bltn (v := .ty "str") (by rfl) T.m_str (by decide +kernel) rfl) pa_nil))))) (pw_or1 (pt_not (pt_chain op_le op_le pe_int (pe_callB call_len_str (by rfl) T.m_len (by decide +kernel) (pa_cons (pv 0) pa_nil)) (pe_glob (v := .int 3) (by rfl) T.c_LONGEST ⟨_, rfl⟩))))))
        (pss_one (ps_ret pe_bl))
        pss_nil)
      (pss_one (ps_ret (pe_callB (cr_all rfl) (by rfl) T.m_all (by decide +kernel) (pa_cons (pe_lc (own := [("letter", 2)]) (g := gName 2) (tt := tYes) rfl nd (pi_str (pv 0)) (blkOk_by (N := ["value", "letters", "letter"]) (sc := defScope s__is_word) (by decide +kernel)) (fun _ _ _ _ _ => pg_name (i := 2) nd rfl (Or.inl rfl)) (fun _ _ _ _ _ => pts_nil) (fun _ _ _ _ _ => (pe_cmpR op_in_sign (pv 2) (pv 1) (by rfl)))) pa_nil))))), ?_⟩
  walk_at "go"
  refine ⟨_, _, _, _, _, rfl, ClsV.ty _, ty, kd_str _ _, _, rfl, ?_⟩
  rw [k4]
  cases hd with
  | str x =>
    have hx : x.cps.size ≤ 1000 := by simpa only [shD, decide_eq_true_eq] using hs
    refine iteF ?_
    have hl : x.length ≤ sizeLine := by
      rw [sizeLine_eq]
      exact Nat.le_trans hx (by decide)
    have q' : ∀ G, Evl.Ex H G → Q (.bl (decide (1 ≤ x.cps.size) && (decide (x.cps.size ≤ 3) && x.cps.toList.all fun c => decide (c ∈ z.cps.toList)))) G := q1
    refine ⟨_, rfl, x, rfl, hl, ?_⟩
    walk_at "go"
    rw [show decide ((1 : Int) ≤ ((x.length : Nat) : Int)) = decide (1 ≤ x.cps.size) from dec_nat (n := 1)]
    refine ite2 (fun h1 => ?_) (fun h1 => ?_)
    · rw [h1, Bool.true_and] at q'
      walk_at "go"
      rw [show decide (((x.length : Nat) : Int) ≤ (3 : Int)) = decide (x.cps.size ≤ 3) from dec_nat (k := 3)]
      refine ite2 (fun h2 => ?_) (fun h2 => ?_)
      · rw [not_t h2, Bool.false_and] at q'
        exact q' _ (.refl _)
      · rw [not_f h2, Bool.true_and] at q'
        refine ⟨_, rfl, x, rfl, fun C nC => lc_it walk_str (fun i G => G = upd H C (.lst ((x.cps.toList.take i).map fun c => V.bl (decide (c ∈ z.cps.toList))))) rfl (fun _ _ _ _ => trivial) ?_ ?_⟩
        · rintro i v G G' hi rfl ⟨rfl, c, hc, rfl⟩
          refine ⟨rfl, ?_⟩
          walk_at "go"
          refine ⟨_, upd_same, ?_, ?_⟩
          · rw [List.length_map, sizeLine_eq]
            exact Nat.lt_of_le_of_lt (List.length_take_le' _ _) (Nat.lt_of_le_of_lt (by rw [Array.length_toList]; exact hx) (by decide))
          · rw [upd_upd, take_one hc, List.map_append]
            rfl
        · rintro G rfl
          rw [Array.size_eq_length_toList, List.take_length]
          refine ⟨C, _, rfl, SqL.of (by rw [upd_same, List.map_map]; rfl), ?_⟩
          walk_at "go"
          rw [List.all_map]
          exact q' _ (ex_new nC)
    · rw [Bool.eq_false_iff.mpr h1, Bool.false_and] at q'
      walk_at "go"
      exact q' _ (.refl _)
  | _ => first
    | (refine iteT ?_
       walk_at "go"
       exact q)
theorem ok_is_name (T : Txt K mg) : FnOk P w K mg base CX0 2 T.is_name.f T.is_name.fd ["value"] (spPred K (dWord lowZ)) := by
  refine T.is_name.F.ok sc_is_name (fun vs H Q E h => ?_) (fun cdv A outer s H vs Q E hr h => ?_)
  · obtain ⟨D, v, d, rfl, _⟩ := h
    rfl
  obtain ⟨D, v, d, rfl, hd, hs, q⟩ := h
  have nd := sc_is_name.nd
  refine ⟨_, (pss_one (ps_ret (pe_call (ok__is_word T) (hr.mono (by decide)) (by rfl) T._is_word.g T._is_word.F.kp T._is_word.b .nil pass0 (pa_cons (pv 0) (pa_cons (pe_glob (v := .str "abcdefghijklmnopqrstuvwxyz") (by rfl) T.c_LETTERS ⟨_, rfl⟩) pa_nil))))), ?_⟩
  walk_at "go"
  exact ⟨D, _, _, _, rfl, hd, hs, q⟩
theorem ok__is_term (T : Txt K mg) : FnOk P w K mg base CX0 3 T._is_term.f T._is_term.fd ["value"] (spPred K dTerm) := by
  refine T._is_term.F.ok sc__is_term (fun vs H Q E h => ?_) (fun cdv A outer s H vs Q E hr h => ?_)
  · obtain ⟨D, v, d, rfl, _⟩ := h
    rfl
  obtain ⟨D, v, d, rfl, hd, hs, q1⟩ := h
  have q := q1 H (.refl _)
  have nd := sc__is_term.nd
  obtain ⟨k, ty, k1, k2, k3, k4⟩ := hd.ty
  refine ⟨_, (pss_one (ps_ret (pe_and (pe_callB call_isi (by rfl) T.m_isinstance (by decide +kernel) (pa_cons (pv 0) (pa_cons (pe_bltn (v := .ty "tuple") (by rfl) T.m_tuple (by decide +kernel) rfl) pa_nil))) (pe_and (pe_cmpR op_eq (pe_callB call_len_seq (by rfl) T.m_len (by decide +kernel) (pa_cons (pv 0) pa_nil)) pe_int (nomark _)) (pe_and (pe_call (ok_is_name T) (hr.mono (by decide)) (by rfl) T.is_name.g T.is_name.F.kp T.is_name.b .nil pass0 (pa_cons (pe_ix ix_tup (pv 0) pe_int (fun _ _ => rfl)) pa_nil)) (pe_one (pe_call (ok_is_fraction T) (hr.mono (by decide)) (by rfl) T.is_fraction.g T.is_fraction.F.kp T.is_fraction.b .nil pass0 (pa_cons (pe_ix ix_tup (pv 0) pe_int (fun _ _ => rfl)) pa_nil)))))))), ?_⟩
  walk_at "go"
  refine ⟨_, _, _, _, _, rfl, ClsV.ty _, ty, kd_tup _ _, _, rfl, ?_⟩
  rw [k1]
  cases hd with
  | tup h g =>
    refine iteT ?_
    walk_at "go"
    have e2 : ∀ {ds : List PyData}, ds.length ≠ 2 → dTerm (.tuple ds) = false := fun {ds} l => by
      match ds, l with
      | [], _ => rfl
      | [_], _ => rfl
      | [_, _], l => exact absurd rfl l
      | _ :: _ :: _ :: _, _ => rfl
    have lg := g.len
    rcases two_or g with ⟨n, _⟩ | ⟨x, y, dx, dy, rfl, rfl, gx, gy⟩
    · have n2 := n
      rw [lg] at n2
      rw [e2 n2] at q
      refine ite2 (fun hc => absurd (of_decide_eq_true hc) (fun z => by injection z with z; omega)) (fun hc => ?_)
      exact q
    · have q' : ∀ G, Evl.Ex H G → Q (.bl (dWord lowZ dx && dFrac dy)) G := q1
      refine ite2 (fun hc => ?_) (fun hc => absurd rfl hc)
      walk_at "go"
      refine ⟨D, ?_⟩
      refine ⟨x, dx, rfl, gx, sh_item (i := 0) hs rfl, fun H1 e1 => ⟨_, rfl, ?_⟩⟩
      refine ite2 (fun h1 => ?_) (fun h1 => ?_)
      · rw [h1, Bool.true_and] at q'
        have hE := sqT_ex e1 h
        walk_at "go"
        exact ⟨D, _, _, rfl, gy.ex e1, sh_item (i := 1) hs rfl, fun H2 e2 => q' H2 (e1.trans e2)⟩
      · rw [Bool.eq_false_iff.mpr h1, Bool.false_and] at q'
        exact q' _ e1
  | _ => first
    | (refine iteF ?_
       walk_at "go"
       exact q)
theorem ok__are_terms (T : Txt K mg) : FnOk P w K mg base CX0 4 T._are_terms.f T._are_terms.fd ["value"] (spTerms K) := by
  refine T._are_terms.F.ok sc__are_terms (fun vs H Q E h => ?_) (fun cdv A outer s H vs Q E hr h => ?_)
  · obtain ⟨D, v, d, rfl, _⟩ := h
    rfl
  obtain ⟨D, v, d, rfl, hd, ok, q1⟩ := h
  have nd := sc__are_terms.nd
  have q := q1 H (.refl _)
  obtain ⟨k, ty, k1, k2, k3, k4⟩ := hd.ty
  refine ⟨_, (pss_cons (ps_if (PW.pt (pw_or (pt_not (pt_val (pe_callB call_isi (by rfl) T.m_isinstance (by decide +kernel) (pa_cons (pv 0) (pa_cons (pe_bltn (v := .ty "tuple") (by rfl) T.m_tuple (by decide +kernel) rfl) pa_nil))))) (pw_or1 (pt_not (pt_val (pe_callB (cr_all rfl) (by rfl) T.m_all (by decide +kernel) (pa_cons (pe_lc (own := [("item", 1)]) (g := gName 1) (tt := tYes) rfl nd (pi_tup (pv 0)) (blkOk_by (N := ["value", "item"]) (sc := defScope s__are_terms) (by decide +kernel)) (fun _ _ _ _ _ => pg_name (i := 1) nd rfl (Or.inl rfl)) (fun _ _ _ _ _ => pts_nil) (fun _ _ _ _ _ => (pe_call (ok__is_term T) (hr.mono (by decide)) (by rfl) T._is_term.g T._is_term.F.kp T._is_term.b .nil pass0 (pa_cons (pv 1) pa_nil)))) pa_nil)))))))
        (pss_one (ps_ret pe_bl))
        pss_nil)
      (pss_one (ps_ret (pe_cmpR op_eq (pe_callB cr_lenK (by rfl) T.m_len (by decide +kernel) (pa_cons (pe_sk (own := [("item", 1)]) (g := gName 1) (tt := tYes) rfl nd (pi_tup (pv 0)) (blkOk_by (N := ["value", "item"]) (sc := defScope s__are_terms) (by decide +kernel)) (fun _ _ _ _ _ => pg_name (i := 1) nd rfl (Or.inl rfl)) (fun _ _ _ _ _ => pts_nil) (fun _ _ _ _ _ => (pe_ix (ix_tupK K rfl) (pv 1) pe_int (fun _ _ => rfl)))) pa_nil)) (pe_callB call_len_seq (by rfl) T.m_len (by decide +kernel) (pa_cons (pv 0) pa_nil)) (nomark _))))), ?_⟩
  walk_at "go"
  refine ⟨_, _, _, _, _, rfl, ClsV.ty _, ty, kd_tup _ _, _, rfl, ?_⟩
  rw [k1]
  cases hd with
  | @tup pa xs ds h g =>
    refine iteF ?_
    have few := ok.few ds rfl
    have sh : shA ds = true := by simpa only [shD] using ok.sh
    have lx := g.len
    walk_at "go"
    refine ⟨⟨_, h⟩, fun C nC => lc_it (walk_tup (xs := xs)) (fun i G => Evl.Ex H G ∧ G C = some (.lst (((ds.take i).map dTerm).map V.bl))) ⟨ex_new nC, upd_same⟩ (fun i G _ z => sqT_ex z.1 h) ?_ ?_⟩
    · rintro i v G G' hi ⟨eG, hC⟩ ⟨rfl, hv⟩
      refine ⟨rfl, ?_⟩
      walk_at "go"
      obtain ⟨d, hd, dv⟩ := g.at hv
      refine ⟨D, _, _, rfl, dv.ex eG, sh_at sh hd, fun G2 e2 => ?_⟩
      refine ⟨_, e2 _ _ hC, ?_, ex_upd (eG.trans e2) nC, ?_⟩
      · rw [List.length_map, List.length_map, List.length_take, sizeLine_eq]
        omega
      · rw [upd_same, Qj.take_next hd, List.map_append, List.map_append]
        rfl
    rintro G ⟨eG, hC⟩
    rw [lx, List.take_length] at hC
    refine ⟨C, _, rfl, SqL.of hC, ?_⟩
    walk_at "go"
    have qa : Q (.bl (ds.all dTerm && decide ((ds.map nmD).Nodup))) G := q1 G eG
    refine ite2 (fun h3 => ?_) (fun h3 => ?_)
    · have z := not_t h3
      rw [List.all_map] at z
      have z2 : ds.all dTerm = false := z
      rw [z2, Bool.false_and] at qa
      walk_at "go"
      exact qa
    have allS : ds.all dTerm = true := by
      have z := not_f h3
      rw [List.all_map] at z
      exact z
    have okt : ∀ d ∈ ds, dTerm d = true := List.all_eq_true.mp allS
    have hG := sqT_ex eG h
    walk_at "go"
    refine ⟨⟨_, hG⟩, fun S nS => sk_it (walk_tup (xs := xs)) (fun i G2 => Evl.Ex G G2 ∧ ∃ M n, G2 S = some (SetTO P w S M n) ∧ seenK ((ds.map nmD).take i) M ∧ n ≤ i ∧ (n = i ↔ ((ds.map nmD).take i).Nodup)) ⟨ex_new nS, _, _, upd_same, fun x => ?_, Nat.le_refl _, fun _ => by simp, fun _ => rfl⟩ (fun i G2 _ z => sqT_ex z.1 hG) ?_ ?_⟩
    · rw [List.take_zero]
      exact ⟨fun z => Bool.noConfusion z, fun z => nomatch z⟩
    · rintro i v G2 G3 hi ⟨e2', M, n, hM, sn, le, iff⟩ ⟨rfl, hv⟩
      refine ⟨rfl, ?_⟩
      obtain ⟨d, hd, dv⟩ := g.at hv
      obtain ⟨nm, t, b, rfl, _⟩ := term_shape (okt d (List.mem_iff_getElem?.mpr ⟨i, hd⟩))
      cases dv.ex (eG.trans e2') with
      | tup h g =>
      obtain ⟨v1, v2, rfl, g1, g2⟩ := two_at g
      cases g1
      walk_at "go"
      have hn : (ds.map nmD)[i]? = some nm := by rw [List.getElem?_map, hd]; rfl
      obtain ⟨k1, k2⟩ := nodup_next hn sn le iff
      refine ⟨Sum.inr nm, M, n, rfl, hM, ?_, ex_upd e2' nS, kIn M (Sum.inr nm), kNum M n (Sum.inr nm), ?_, ?_, k1, k2⟩
      · have : 200 ≤ scanBound := by decide
        omega
      · rw [upd_same]
        rfl
      · rw [Qj.take_next hn]
        exact seen_add sn nm
    rintro G2 ⟨e2', M, n, hM, sn, le, iff⟩
    have el : xs.length = (ds.map nmD).length := by rw [lx, List.length_map]
    rw [el, List.take_length] at iff
    rw [el] at le
    refine ⟨S, M, _, rfl, hM, ?_⟩
    have hG2 := sqT_ex e2' hG
    walk_at "go"
    have z : decide (V.int (n : Int) = V.int (xs.length : Int)) = dTerms (.tuple ds) := by
      show _ = (ds.all dTerm && decide ((ds.map nmD).Nodup))
      rw [allS, Bool.true_and]
      refine decide_eq_decide.mpr ((show V.int (n : Int) = V.int (xs.length : Int) ↔ n = (ds.map nmD).length from ⟨fun z => ?_, fun z => ?_⟩).trans iff)
      · injection z with z
        omega
      · rw [el, z]
    rw [z]
    exact q1 G2 (eG.trans e2')
  | _ => first
    | (refine iteT ?_
       walk_at "go"
       exact q)
theorem ok__law_take (T : Txt K mg) : FnOk P w K mg base CX0 1 T._law_take.f T._law_take.fd ["_law_deck_here", "_law_limit"] spTake := by
  refine T._law_take.F.ok sc__law_take (fun vs H Q E h => ?_) (fun cdv A outer s H vs Q E hr h => ?_)
  · obtain ⟨D, lim, rfl, _⟩ := h
    rfl
  obtain ⟨D, lim, rfl, ⟨g, m, c, hD, hm1, hm2⟩, hl, hl2, q⟩ := h
  have nd := sc__law_take.nd
  refine ⟨_, (pss_cons (ps_if (pt_cmpR op_gt (pe_ix ix_list (pv 0) pe_int (fun _ _ => rfl)) pe_int (nomark _))
        (pss_cons (ps_set (i := 2) nd rfl (.inl rfl) (pe_op op_mod (pe_callTy call_int1 (by rfl) T.m_int boot_int (pa_cons (pe_ix ix_list (pv 0) pe_int (fun _ _ => rfl)) pa_nil)) (pv 1)))
        (pss_cons (ps_asg (pe_op op_fdivW (pe_ix ix_list (pv 0) pe_int (fun _ _ => rfl)) (pv 1)) (pg_sub (pv 0) pe_int set_list))
        (pss_one (ps_ret (pv 2)))))
        pss_nil)
      (pss_cons (ps_asg (pe_op op_add (pe_ix ix_list (pv 0) pe_int (fun _ _ => rfl)) pe_int) (pg_sub (pv 0) pe_int set_list))
      (pss_cons (ps_set (i := 3) nd rfl (.inl rfl) (pe_op op_add (pe_op op_mul (pe_ix ix_list (pv 0) pe_int (fun _ _ => rfl)) pe_int) (pe_op op_mul pe_int (pe_ix ix_list (pv 0) pe_int (fun _ _ => rfl)))))
      (pss_cons (ps_asg (pe_op op_mod (pe_callTy call_int1 (by rfl) T.m_int boot_int (pa_cons (pv 3) pa_nil)) pe_int) (pg_sub (pv 0) pe_int set_list))
      (pss_one (ps_ret (pe_op op_mod (pe_op op_fdivW (pe_op op_mod (pe_callTy call_int1 (by rfl) T.m_int boot_int (pa_cons (pe_op op_mul (pe_ix ix_list (pv 0) pe_int (fun _ _ => rfl)) (pe_ix ix_list (pv 0) pe_int (fun _ _ => rfl))) pa_nil)) pe_int) pe_int) (pv 1)))))))), ?_⟩
  walk_at "go"
  refine ite2 (fun hg => ?_) (fun hg => ?_)
  · walk_at "go"
    exact q _ _ (Int.emod_nonneg _ (by omega)) (Int.emod_lt_of_pos _ hl) Bu.upd ⟨_, _, _, upd_same, hm1, hm2⟩
  · walk_at "go"
    have b0 := Int.emod_nonneg (m * 2862933555777941757 + 3037000493 * (c + 1)) (b := 2305843009213693951) (by decide)
    have b1 := Int.emod_lt_of_pos (m * 2862933555777941757 + 3037000493 * (c + 1)) (b := 2305843009213693951) (by decide)
    exact q _ _ (Int.emod_nonneg _ (by omega)) (Int.emod_lt_of_pos _ hl) (Bu.upd.trans Bu.upd) ⟨_, _, _, upd_same, by omega, by omega⟩
theorem ok__law_deck (T : Txt K mg) : FnOk P w K mg base CX0 1 T._law_deck.f T._law_deck.fd ["_law_script"] (spDeck K) := by
  refine T._law_deck.F.ok sc__law_deck (fun vs H Q E h => ?_) (fun cdv A outer s H vs Q E hr h => ?_)
  · obtain ⟨a, ns, rfl, _⟩ := h
    rfl
  obtain ⟨a, ns, rfl, hS, hlen, q⟩ := h
  have nd := sc__law_deck.nd
  refine ⟨_, (pss_cons (ps_par (i := 1) (j := 2) rfl nd rfl rfl (by decide) rfl rfl (pa_cons pe_int (pa_cons (pe_op op_add pe_int (pe_op op_mul pe_int (pe_callB call_len_seq (by rfl) T.m_len (by decide +kernel) (pa_cons (pv 0) pa_nil)))) pa_nil)) (by rfl))
      (pss_cons (ps_for PassesOwn.never rfl (pi_list (pe_slice sl_list (pv 0) po_none (po_some pe_int))) (pg_name (i := 3) nd rfl (.inl rfl))
        (pss_one (ps_if (pt_cmpR op_ge (pv 3) (pe_op op_pow pe_int pe_int) (nomark _))
          (pss_one (ps_set (i := 1) nd rfl (.inl rfl) (pe_op op_sub (pe_op op_add (pe_op op_mul (pv 1) pe_int) (pv 3)) (pe_op op_pow pe_int pe_int))))
          (pss_cons (ps_set (i := 2) nd rfl (.inl rfl) (pe_op op_add (pe_op op_mul (pv 2) pe_int) (pe_op op_mul pe_int (pe_callB call_abs (by rfl) T.m_abs (by decide +kernel) (pa_cons (pv 3) pa_nil)))))
          (pss_one (ps_set (i := 2) nd rfl (.inl rfl) (pe_op op_mod (pe_callTy call_int1 (by rfl) T.m_int boot_int (pa_cons (pe_op op_add (pv 2) (pe_callTy call_int1 (by rfl) T.m_int boot_int (pa_cons (pe_cmpR op_lt (pv 3) pe_int (nomark _)) pa_nil))) pa_nil)) pe_int)))))))
      (pss_one (ps_ret (pe_lst (pa_cons (pv 1) (pa_cons (pv 2) (pa_cons pe_int pa_nil)))))))), ?_⟩
  walk_at "go"
  refine ⟨a, _, rfl, hS, fun c nc => ?_⟩
  refine ⟨c, rfl, ⟨_, SqL.of upd_same⟩, for_list (xs := cutV (ns.map V.int) none (some 63)) (fun i σ H3 => ∃ (g m : Int) (y : Option V), σ = [some (.ref a), some (.int g), some (.int m), y] ∧ -(2 ^ 62) < m ∧ m < 2 ^ 62 ∧ H3 = upd H c (.lst (cutV (ns.map V.int) none (some 63)))) ?_ ?_ ?_ ?_⟩
  · refine ⟨_, _, _, rfl, ?_, ?_, rfl⟩
    · rw [List.length_map]; omega
    · rw [List.length_map]; omega
  · rintro i σ H3 hi ⟨g, m, y, rfl, _, _, rfl⟩
    exact SqL.of upd_same
  · rintro i x σ H3 hx ⟨g, m, y, rfl, h1, h2, rfl⟩
    obtain ⟨n, rfl⟩ := cut_int hx
    walk_at "go"
    refine ite2 (fun hg => ?_) (fun hg => ?_)
    · walk_at "go"
      exact ⟨_, _, _, rfl, h1, h2, rfl⟩
    · walk_at "go"
      exact ⟨_, _, _, rfl, by omega, by omega, rfl⟩
  · rintro σ H3 ⟨g, m, y, rfl, h1, h2, rfl⟩
    walk_at "go"
    intro D nD
    have nD2 : upd H c (.lst (cutV (ns.map V.int) none (some 63))) D = none := nD
    exact q D _ (Evl.fresh_back (ex_new nc) nD2) ((ex_new nc).trans (ex_new nD2)) ⟨_, _, _, upd_same, h1, h2⟩
theorem ok__law_frac (T : Txt K mg) : FnOk P w K mg base CX0 1 T._law_frac.f T._law_frac.fd ["_law_top", "_law_bottom"] spFrac := by
  refine T._law_frac.F.ok sc__law_frac (fun vs H Q E h => ?_) (fun cdv A outer s H vs Q E hr h => ?_)
  · obtain ⟨t, b, rfl, _⟩ := h
    rfl
  obtain ⟨t, b, rfl, hb0, ht, hb, q⟩ := h
  have nd := sc__law_frac.nd
  refine ⟨_, (pss_cons (ps_par (i := 2) (j := 3) rfl nd rfl rfl (by decide) rfl rfl (pa_cons (pe_callB call_abs (by rfl) T.m_abs (by decide +kernel) (pa_cons (pv 0) pa_nil)) (pa_cons (pe_callB call_abs (by rfl) T.m_abs (by decide +kernel) (pa_cons (pv 1) pa_nil)) pa_nil)) (by rfl))
      (pss_cons (ps_while PassesOwn.never (pt_cmpR op_gt (pv 3) pe_int (nomark _))
        (pss_one (ps_par (i := 2) (j := 3) rfl nd rfl rfl (by decide) rfl rfl (pa_cons (pv 3) (pa_cons (pe_op op_mod (pe_callTy call_int1 (by rfl) T.m_int boot_int (pa_cons (pv 2) pa_nil)) (pv 3)) pa_nil)) (by rfl))))
      (pss_cons (ps_set (i := 4) nd rfl (.inl rfl) (pe_ifExp (pt_cmpR op_gt (pv 1) pe_int (nomark _)) pe_int (pe_un un_neg pe_int)))
      (pss_one (ps_ret (pe_tup (pa_cons (pe_op op_fdivW (pe_op op_mul (pv 4) (pv 0)) (pv 2)) (pa_cons (pe_op op_fdivW (pe_op op_mul (pv 4) (pv 1)) (pv 2)) pa_nil)))))))), ?_⟩
  walk_at "go"
  have G0 := gcd_pos t hb0
  have G1 := gcd_lt t hb0 hb
  refine ⟨WF t b H, ⟨_, _, _, rfl, ?_, ?_, ?_, rfl, rfl⟩, fun m σ H' hW => ?_⟩
  · split <;> omega
  · split <;> omega
  · exact gcd_abs t b
  obtain ⟨x, y, rfl, hx, hy, hxy, rfl, rfl⟩ := hW
  walk_at "go"
  refine ite2 (fun hg => ?_) (fun hg => ?_)
  · have hy0 : 0 < y := of_decide_eq_true hg
    refine ⟨fun σ' H'' => ∃ m', m' < y.natAbs ∧ WF t b H' m' σ' H'', fun σ' H'' n => n, ?_⟩
    walk_at "go"
    refine ⟨_, ?_, _, _, rfl, hy, Int.emod_nonneg _ (by omega), ?_, rfl, rfl⟩
    · have := Int.emod_lt_of_pos x hy0
      have := Int.emod_nonneg x (b := y) (by omega)
      omega
    · rw [← hxy]
      exact gcd_step hx hy0
  · have hy0 : y = 0 := by
      have : ¬ 0 < y := fun z => hg (decide_eq_true z)
      omega
    subst hy0
    have ex : x = ((Nat.gcd t.natAbs b.natAbs : Nat) : Int) := by
      rw [Int.natAbs_zero, Nat.gcd_zero_right] at hxy
      omega
    subst ex
    have D1 : CDivW 0 ((Nat.gcd t.natAbs b.natAbs : Nat) : Int) := wide_div (b := 8000) (by omega) (by omega) (by decide) (by decide)
    walk_at "go"
    refine ite2 (fun hs => ?_) (fun hs => ?_)
    · have hs0 : 0 < b := of_decide_eq_true hs
      walk_at "go"
      refine fun p np => q p _ np (ex_new np) ?_
      rw [upd_same]
      unfold fr
      rw [if_pos hs0]
      rfl
    · have hs0 : ¬ 0 < b := fun z => hs (decide_eq_true z)
      walk_at "go"
      refine fun p np => q p _ np (ex_new np) ?_
      rw [upd_same]
      unfold fr
      rw [if_neg hs0]
      rfl
theorem ok__lowest (T : Txt K mg) : FnOk P w K mg base CX0 1 T._lowest.f T._lowest.fd ["top", "bottom"] spFrac := by
  refine T._lowest.F.ok sc__lowest (fun vs H Q E h => ?_) (fun cdv A outer s H vs Q E hr h => ?_)
  · obtain ⟨t, b, rfl, _⟩ := h
    rfl
  obtain ⟨t, b, rfl, hb0, ht, hb, q⟩ := h
  have nd := sc__lowest.nd
  have G0 := gcd_pos t hb0
  have G1 := gcd_lt t hb0 hb
  refine ⟨_, (pss_cons (ps_set (i := 2) nd rfl (.inl rfl) (pe_callBfun cr_gcd (by rfl) T.g_gcd (pa_cons (pv 0) (pa_cons (pv 1) pa_nil))))
      (pss_cons (ps_if (pt_cmpR op_lt (pv 1) pe_int (nomark _))
        (pss_one (ps_set (i := 2) nd rfl (.inl rfl) (pe_un un_neg (pv 2))))
        pss_nil)
      (pss_one (ps_ret (pe_tup (pa_cons (pe_op op_fdivA (pv 0) (pv 2)) (pa_cons (pe_op op_fdivA (pv 1) (pv 2)) pa_nil))))))), ?_⟩
  walk_at "go"
  refine ite2 (fun hs => ?_) (fun hs => ?_)
  · have hs0 : b < 0 := of_decide_eq_true hs
    have D1 : CDivA 0 (-((Nat.gcd t.natAbs b.natAbs : Nat) : Int)) := ⟨by omega, PySem.Flt.log2_lt_of (by decide) (Nat.lt_of_le_of_lt (by omega) (Nat.lt_of_lt_of_le G1 (Nat.pow_le_pow_right (by decide) (show 8000 ≤ 9000 by decide))))⟩
    walk_at "go"
    refine fun p np => q p _ np (ex_new np) ?_
    rw [upd_same]
    unfold fr
    rw [if_neg (by omega)]
    dsimp only
    rw [fdiv_neg (dvd_t t b), fdiv_neg (dvd_b t b)]
    rfl
  · have hs0 : 0 < b := by
      have : ¬ b < 0 := fun z => hs (decide_eq_true z)
      omega
    have D1 : CDivA 0 ((Nat.gcd t.natAbs b.natAbs : Nat) : Int) := ⟨by omega, PySem.Flt.log2_lt_of (by decide) (Nat.lt_of_le_of_lt (by omega) (Nat.lt_of_lt_of_le G1 (Nat.pow_le_pow_right (by decide) (show 8000 ≤ 9000 by decide))))⟩
    walk_at "go"
    refine fun p np => q p _ np (ex_new np) ?_
    rw [upd_same]
    unfold fr
    rw [if_pos hs0]
    dsimp only
    rw [fdiv_pos (by omega), fdiv_pos (by omega), Int.one_mul, Int.one_mul]
    rfl
theorem ok_plus (T : Txt K mg) : FnOk P w K mg base CX0 2 T.plus.f T.plus.fd ["one", "other"] (spBinW K pl) := by
  refine T.plus.F.ok sc_plus (fun vs H Q E h => ?_) (fun cdv A outer s H vs Q E hr h => ?_)
  · obtain ⟨p, q, x, y, k, rfl, _⟩ := h
    rfl
  obtain ⟨p, q, x, y, k, rfl, hp, hq, sx, sy, k0, hk, qq⟩ := h
  have nd := sc_plus.nd
  have hp' : SqT K H p [.int x.1, .int x.2] := hp
  have hq' : SqT K H q [.int y.1, .int y.2] := hq
  have m1 := mulW sx.t sy.b k0 hk
  have m2 := mulW sy.t sx.b k0 hk
  have m3 := mulW sx.b sy.b k0 hk
  have m4 := mulW sx.t sy.t k0 hk
  refine ⟨_, (pss_one (ps_ret (pe_call (ok__lowest T) (hr.mono (by decide)) (by rfl) T._lowest.g T._lowest.F.kp T._lowest.b .nil pass0 (pa_cons (pe_op op_add (pe_op op_mulW (pe_ix ix_tup (pv 0) pe_int (fun _ _ => rfl)) (pe_ix ix_tup (pv 1) pe_int (fun _ _ => rfl))) (pe_op op_mulW (pe_ix ix_tup (pv 1) pe_int (fun _ _ => rfl)) (pe_ix ix_tup (pv 0) pe_int (fun _ _ => rfl)))) (pa_cons (pe_op op_mulW (pe_ix ix_tup (pv 0) pe_int (fun _ _ => rfl)) (pe_ix ix_tup (pv 1) pe_int (fun _ _ => rfl))) pa_nil))))), ?_⟩
  walk_at "go"
  exact ⟨bot_ne sx sy, pow_up (pl_t sx sy) (by omega), pow_up (pr_b sx sy) (by omega), qq⟩
theorem ok_times (T : Txt K mg) : FnOk P w K mg base CX0 2 T.times.f T.times.fd ["one", "other"] (spBinW K ti) := by
  refine T.times.F.ok sc_times (fun vs H Q E h => ?_) (fun cdv A outer s H vs Q E hr h => ?_)
  · obtain ⟨p, q, x, y, k, rfl, _⟩ := h
    rfl
  obtain ⟨p, q, x, y, k, rfl, hp, hq, sx, sy, k0, hk, qq⟩ := h
  have nd := sc_times.nd
  have hp' : SqT K H p [.int x.1, .int x.2] := hp
  have hq' : SqT K H q [.int y.1, .int y.2] := hq
  have m1 := mulW sx.t sy.b k0 hk
  have m2 := mulW sy.t sx.b k0 hk
  have m3 := mulW sx.b sy.b k0 hk
  have m4 := mulW sx.t sy.t k0 hk
  refine ⟨_, (pss_one (ps_ret (pe_call (ok__lowest T) (hr.mono (by decide)) (by rfl) T._lowest.g T._lowest.F.kp T._lowest.b .nil pass0 (pa_cons (pe_op op_mulW (pe_ix ix_tup (pv 0) pe_int (fun _ _ => rfl)) (pe_ix ix_tup (pv 1) pe_int (fun _ _ => rfl))) (pa_cons (pe_op op_mulW (pe_ix ix_tup (pv 0) pe_int (fun _ _ => rfl)) (pe_ix ix_tup (pv 1) pe_int (fun _ _ => rfl))) pa_nil))))), ?_⟩
  walk_at "go"
  exact ⟨bot_ne sx sy, pow_up (pr_t sx sy) (by omega), pow_up (pr_b sx sy) (by omega), qq⟩
theorem ok__law_plus (T : Txt K mg) : FnOk P w K mg base CX0 2 T._law_plus.f T._law_plus.fd ["_law_one", "_law_other"] (spBinW K pl) := by
  refine T._law_plus.F.ok sc__law_plus (fun vs H Q E h => ?_) (fun cdv A outer s H vs Q E hr h => ?_)
  · obtain ⟨p, q, x, y, k, rfl, _⟩ := h
    rfl
  obtain ⟨p, q, x, y, k, rfl, hp, hq, sx, sy, k0, hk, qq⟩ := h
  have nd := sc__law_plus.nd
  have hp' : SqT K H p [.int x.1, .int x.2] := hp
  have hq' : SqT K H q [.int y.1, .int y.2] := hq
  have m1 := mulW sx.t sy.b k0 hk
  have m2 := mulW sy.t sx.b k0 hk
  have m3 := mulW sx.b sy.b k0 hk
  have m4 := mulW sx.t sy.t k0 hk
  refine ⟨_, (pss_one (ps_ret (pe_call (ok__law_frac T) (hr.mono (by decide)) (by rfl) T._law_frac.g T._law_frac.F.kp T._law_frac.b .nil pass0 (pa_cons (pe_op op_add (pe_op op_mulW (pe_ix ix_tup (pv 0) pe_int (fun _ _ => rfl)) (pe_ix ix_tup (pv 1) pe_int (fun _ _ => rfl))) (pe_op op_mulW (pe_ix ix_tup (pv 1) pe_int (fun _ _ => rfl)) (pe_ix ix_tup (pv 0) pe_int (fun _ _ => rfl)))) (pa_cons (pe_op op_mulW (pe_ix ix_tup (pv 0) pe_int (fun _ _ => rfl)) (pe_ix ix_tup (pv 1) pe_int (fun _ _ => rfl))) pa_nil))))), ?_⟩
  walk_at "go"
  exact ⟨bot_ne sx sy, pow_up (pl_t sx sy) (by omega), pow_up (pr_b sx sy) (by omega), qq⟩
theorem ok__law_times (T : Txt K mg) : FnOk P w K mg base CX0 2 T._law_times.f T._law_times.fd ["_law_one", "_law_other"] (spBinW K ti) := by
  refine T._law_times.F.ok sc__law_times (fun vs H Q E h => ?_) (fun cdv A outer s H vs Q E hr h => ?_)
  · obtain ⟨p, q, x, y, k, rfl, _⟩ := h
    rfl
  obtain ⟨p, q, x, y, k, rfl, hp, hq, sx, sy, k0, hk, qq⟩ := h
  have nd := sc__law_times.nd
  have hp' : SqT K H p [.int x.1, .int x.2] := hp
  have hq' : SqT K H q [.int y.1, .int y.2] := hq
  have m1 := mulW sx.t sy.b k0 hk
  have m2 := mulW sy.t sx.b k0 hk
  have m3 := mulW sx.b sy.b k0 hk
  have m4 := mulW sx.t sy.t k0 hk
  refine ⟨_, (pss_one (ps_ret (pe_call (ok__law_frac T) (hr.mono (by decide)) (by rfl) T._law_frac.g T._law_frac.F.kp T._law_frac.b .nil pass0 (pa_cons (pe_op op_mulW (pe_ix ix_tup (pv 0) pe_int (fun _ _ => rfl)) (pe_ix ix_tup (pv 1) pe_int (fun _ _ => rfl))) (pa_cons (pe_op op_mulW (pe_ix ix_tup (pv 0) pe_int (fun _ _ => rfl)) (pe_ix ix_tup (pv 1) pe_int (fun _ _ => rfl))) pa_nil))))), ?_⟩
  walk_at "go"
  exact ⟨bot_ne sx sy, pow_up (pr_t sx sy) (by omega), pow_up (pr_b sx sy) (by omega), qq⟩
end
end K10
set_option pp.maxSteps 600
set_option pp.deepTerms false
namespace K10
open PySem PySem.Spec PyProof.Rows L2 Qj
local macro_rules | `(tactic| walk_at "go") => `(tactic| repeat (first
  | (refine ⟨_, rfl, ?_⟩)
  | (refine ⟨_, _, rfl, rfl, ?_⟩)
  | (refine ⟨_, _, rfl, ?_⟩)
  | (refine ⟨_, _, _, _, rfl, rfl, SqL.of (by assumption), rfl, ?_⟩)
  | (refine ⟨_, _, _, _, rfl, rfl, SqL.of upd_same, rfl, ?_⟩)
  | (refine ⟨_, _, _, _, rfl, rfl, SqT.of (by assumption), rfl, ?_⟩)
  | (refine ⟨_, _, _, _, rfl, rfl, SqT.of upd_same, rfl, ?_⟩)
  | (refine ⟨_, _, _, _, rfl, rfl, (by assumption), rfl, ?_⟩)
  | (refine ⟨_, _, _, _, rfl, rfl, upd_same, rfl, ?_⟩)
  | (refine ⟨_, _, rfl, Or.inl (by assumption), ?_⟩)
  | (refine ⟨_, _, rfl, Or.inr (SqT.of (by assumption)), ?_⟩)
  | (refine ⟨_, _, rfl, Or.inr (SqT.of upd_same), ?_⟩)
  | (refine ⟨_, _, rfl, Or.inl (SqL.of (by assumption)), ?_⟩)
  | (refine ⟨_, _, rfl, Or.inr (by assumption : SqT _ _ _ _), ?_⟩)
  | (refine ⟨_, _, rfl, (by assumption : SqT _ _ _ _), rfl, ?_⟩)
  | (refine ⟨_, _, rfl, SqT.of upd_same, rfl, ?_⟩)
  | (refine ⟨_, _, rfl, SqT.of (by assumption), rfl, ?_⟩)
  | (refine ⟨_, _, rfl, Kn.int _, ?_⟩)
  | (refine ⟨_, _, rfl, (by assumption : Kn _ _ _), ?_⟩)
  | (refine iteNS rfl ?_)
  | (refine iteF ?_)
  | (refine iteT ?_)
  | (refine Or.inl ⟨_, rfl, ?_⟩)
  | (refine Or.inr ⟨_, rfl, ?_⟩)
  | (refine And.intro sz4 ?_)
  | (refine And.intro (by first | exact rfl | assumption | decide | (show (0 : Int) < _; decide) | exact wide_div (b := 63) (by assumption) (by omega) (by decide) (by decide) | exact wide_div (b := 63) (by decide) (by decide) (by decide) (by decide) | exact Or.inl ⟨by decide, by decide⟩ | exact Or.inr ⟨by decide, by decide⟩ | exact ⟨by decide, by decide, by decide⟩ | exact Or.inl ⟨by omega, by omega⟩ | exact Or.inr ⟨by omega, by omega⟩) ?_)))

section
variable {P : Program} {w : World} {K : PySem.W.Frag} {mg : Str → Option Value} {base : Heap}
theorem ok__law_names (T : Txt K mg) : FnOk P w K mg base CX0 2 T._law_names.f T._law_names.fd ["_law_deck_here"] spNamesU := by
  refine T._law_names.F.ok sc__law_names (fun vs H Q E h => ?_) (fun cdv A outer s H vs Q E hr h => ?_)
  · obtain ⟨D, rfl, _⟩ := h
    rfl
  obtain ⟨D, rfl, dk, q⟩ := h
  have nd := sc__law_names.nd
  refine ⟨_, (pss_cons (ps_set (i := 1) nd rfl (.inl rfl) pe_str)
      (pss_cons (ps_set (i := 2) nd rfl (.inl rfl) (pe_call (ok__law_take T) (hr.mono (by decide)) (by rfl) T._law_take.g T._law_take.F.kp T._law_take.b .nil pass0 (pa_cons (pv 0) (pa_cons pe_int pa_nil))))
      (pss_cons (ps_set (i := 3) nd rfl (.inl rfl) (pe_lst pa_nil))
      (pss_cons (ps_for PassesOwn.never rfl (pi_range1 rfl T.m_range (pa_cons pe_int pa_nil)) (pg_name (i := 4) nd rfl (.inl rfl))
        (pss_cons (ps_set (i := 5) nd rfl (.inl rfl) (pe_ix ix_str (pv 1) (pe_op op_mod (pe_callTy call_int1 (by rfl) T.m_int boot_int (pa_cons (pe_op op_add (pv 2) (pe_op op_mul pe_int (pv 4))) pa_nil)) pe_int) (fun _ _ => rfl)))
        (pss_cons (ps_for PassesOwn.never rfl (pi_range1 rfl T.m_range (pa_cons (pe_call (ok__law_take T) (hr.mono (by decide)) (by rfl) T._law_take.g T._law_take.F.kp T._law_take.b .nil pass0 (pa_cons (pv 0) (pa_cons pe_int pa_nil))) pa_nil)) (pg_name (i := 6) nd rfl (.inl rfl))
          (pss_one (ps_set (i := 5) nd rfl (.inl rfl) (pe_op op_add_str (pv 5) (pe_ix ix_str (pv 1) (pe_call (ok__law_take T) (hr.mono (by decide)) (by rfl) T._law_take.g T._law_take.F.kp T._law_take.b .nil pass0 (pa_cons (pv 0) (pa_cons pe_int pa_nil))) (fun _ _ => rfl))))))
        (pss_one (ps_expr (pe_bm PySem.F.plainAttrs_list PySem.F.slot_list_append PySem.F.type_list_append mt_append (pv 3) (pa_cons (pv 5) pa_nil)))))))
      (pss_one (ps_ret (pv 3))))))), ?_⟩
  walk_at "go"
  intro st H1 s0 s1 bu1 dk1
  walk_at "go"
  intro R nR
  have hR0 : H R = none := by
    cases e : H R with
    | none => rfl
    | some o =>
      have z := bu1 R o (dk1.ne nR) e
      rw [nR] at z
      cases z
  have nRD : R ≠ D := dk1.ne nR
  walk_at "go"
  refine for_range (n := 5) (fun i σ G => ∃ (ns : List Str) (y4 y5 y6 : Option V), σ = [some (.ref D), some (.str lowZ), some (.int st), some (.ref R), y4, y5, y6] ∧ DeckAt G D ∧ Bu D H G ∧ G R = some (.lst (ns.map V.str)) ∧ ns.length = i ∧ (∀ x ∈ ns, Nm x) ∧ Firsts st ns) ?_ ?_ ?_
  · exact ⟨[], _, _, _, rfl, dk1.ex (ex_new nR), bu1.trans (Bu.new nR), upd_same, rfl, (fun x hx => nomatch hx), fun i x hx => nomatch hx⟩
  · rintro i σ G hi ⟨ns, y4, y5, y6, rfl, dkG, bu, hR, nl, ok, fsn⟩
    walk_at "go"
    obtain ⟨c, hc, ec0, ec1, ecf⟩ := low_first (fs := st + 7 * (0 + (i : Int)))
    refine ⟨lowZ, _, c, rfl, rfl, by decide, hc, ?_⟩
    walk_at "go"
    intro m G1 m0 m1 bu2 dk2
    walk_at "go"
    refine ⟨by omega, by omega, for_range (n := m.toNat) (fun j σ G2 => ∃ (x : Str) (y6 : Option V), σ = [some (.ref D), some (.str lowZ), some (.int st), some (.ref R), some (.int (0 + (i : Int))), some (.str x), y6] ∧ DeckAt G2 D ∧ Bu D G G2 ∧ x.cps.size = 1 + j ∧ x.cps[0]? = some c ∧ ∀ c ∈ x.cps.toList, 97 ≤ c ∧ c ≤ 122) ?_ ?_ ?_⟩
    · exact ⟨⟨#[c]⟩, _, rfl, dk2, bu2, rfl, rfl, fun x hx => by
        have : x = c := by simpa using hx
        subst this
        exact ⟨ec0, ec1⟩⟩
    · rintro j σ G2 hj ⟨x, y6', rfl, dk3, bu3, sz, h0c, al⟩
      walk_at "go"
      intro m2 G4 m20 m21 bu4 dk4
      obtain ⟨c2, hc2, ec2⟩ := low_sign (fs := m2)
      rw [Int.emod_eq_of_lt m20 m21] at hc2
      refine ⟨lowZ, _, c2, rfl, rfl, by decide, hc2, ?_⟩
      have lx : x.length = 1 + j := sz
      refine ⟨_, _, rfl, rfl, by rw [lx, sizeLine_eq]; have : (⟨#[c2]⟩ : Str).length = 1 := rfl; omega, ?_⟩
      refine ⟨_, _, rfl, dk4, bu3.trans bu4, ?_, ?_, fun z hz => ?_⟩
      · show (x.cps ++ #[c2]).size = _
        rw [Array.size_append, sz]
        show 1 + j + 1 = _
        omega
      · show (x.cps ++ #[c2])[0]? = some c
        rw [Array.getElem?_append_left (by omega)]
        exact h0c
      · have hz2 : z ∈ (x.cps ++ #[c2]).toList := hz
        rw [Array.toList_append, List.mem_append] at hz2
        rcases hz2 with hz2 | hz2
        · exact al z hz2
        · have : z = c2 := by simpa using hz2
          subst this
          exact ec2
    · rintro σ G2 ⟨x, y6', rfl, dk3, bu3, sz, h0c, al⟩
      have hR2 := bu3 _ _ nRD hR
      walk_at "go"
      refine ⟨.inl ⟨rfl, _, SqL.of hR2⟩, ?_⟩
      walk_at "go"
      refine ⟨R, _, _, rfl, rfl, hR2, by rw [List.length_map, sizeLine_eq]; omega, ?_⟩
      refine ⟨ns ++ [x], _, _, _, rfl, ?_, fun a o na ha => ?_, ?_, by rw [List.length_append, nl]; rfl, fun z hz => ?_, firsts_add fsn (by rw [h0c, ecf, nl, Int.zero_add])⟩
      · obtain ⟨g1, k1, k2, hD, hm⟩ := dk3
        exact ⟨g1, k1, k2, by rw [upd_ne nRD.symm]; exact hD, hm⟩
      · rw [upd_ne (fun e => by subst e; rw [hR0] at ha; cases ha)]
        exact bu3 _ _ na (bu _ _ na ha)
      · rw [upd_same, List.map_append]
        rfl
      · rcases List.mem_append.mp hz with h | h
        · exact ok z h
        · rw [List.mem_singleton.mp h]
          exact ⟨by omega, by omega, al⟩
  · rintro σ G ⟨ns, y4, y5, y6, rfl, dkG, bu, hR, nl, ok, fsn⟩
    walk_at "go"
    exact q R ns G hR0 hR nRD nl ok (firsts_nd fsn (by omega)) bu dkG
end
end K10
set_option pp.maxSteps 600
set_option pp.deepTerms false
namespace K10
open PySem PySem.Spec PyProof.Rows L2 Qj
local macro_rules | `(tactic| walk_at "go") => `(tactic| repeat (first
  | (refine ⟨_, rfl, ?_⟩)
  | (refine ⟨_, _, rfl, rfl, ?_⟩)
  | (refine ⟨_, _, rfl, ?_⟩)
  | (refine ⟨_, _, _, _, rfl, rfl, SqL.of (by assumption), rfl, ?_⟩)
  | (refine ⟨_, _, _, _, rfl, rfl, SqL.of upd_same, rfl, ?_⟩)
  | (refine ⟨_, _, _, _, rfl, rfl, SqT.of (by assumption), rfl, ?_⟩)
  | (refine ⟨_, _, _, _, rfl, rfl, SqT.of upd_same, rfl, ?_⟩)
  | (refine ⟨_, _, _, _, rfl, rfl, (by assumption), rfl, ?_⟩)
  | (refine ⟨_, _, _, _, rfl, rfl, upd_same, rfl, ?_⟩)
  | (refine ⟨_, _, rfl, Or.inl (by assumption), ?_⟩)
  | (refine ⟨_, _, rfl, Or.inr (SqT.of (by assumption)), ?_⟩)
  | (refine ⟨_, _, rfl, Or.inr (SqT.of upd_same), ?_⟩)
  | (refine ⟨_, _, rfl, Or.inl (SqL.of (by assumption)), ?_⟩)
  | (refine ⟨_, _, rfl, Or.inr (by assumption : SqT _ _ _ _), ?_⟩)
  | (refine ⟨_, _, rfl, (by assumption : SqT _ _ _ _), rfl, ?_⟩)
  | (refine ⟨_, _, rfl, SqT.of upd_same, rfl, ?_⟩)
  | (refine ⟨_, _, rfl, SqT.of (by assumption), rfl, ?_⟩)
  | (refine ⟨_, _, rfl, Kn.int _, ?_⟩)
  | (refine ⟨_, _, rfl, (by assumption : Kn _ _ _), ?_⟩)
  | (refine iteNS rfl ?_)
  | (refine iteF ?_)
  | (refine iteT ?_)
  | (refine Or.inl ⟨_, rfl, ?_⟩)
  | (refine Or.inr ⟨_, rfl, ?_⟩)
  | (refine And.intro sz4 ?_)
  | (refine And.intro (by first | exact rfl | assumption | decide | (show (0 : Int) < _; decide) | exact wide_div (b := 63) (by assumption) (by omega) (by decide) (by decide) | exact wide_div (b := 63) (by decide) (by decide) (by decide) (by decide) | exact Or.inl ⟨by decide, by decide⟩ | exact Or.inr ⟨by decide, by decide⟩ | exact ⟨by decide, by decide, by decide⟩ | exact Or.inl ⟨by omega, by omega⟩ | exact Or.inr ⟨by omega, by omega⟩) ?_)))

section
variable {P : Program} {w : World} {K : PySem.W.Frag} {mg : Str → Option Value} {base : Heap}
theorem ok__law_small (T : Txt K mg) : FnOk P w K mg base CX0 3 T._law_small.f T._law_small.fd ["_law_deck_here"] spSmall := by
  refine T._law_small.F.ok sc__law_small (fun vs H Q E h => ?_) (fun cdv A outer s H vs Q E hr h => ?_)
  · obtain ⟨D, rfl, _⟩ := h
    rfl
  obtain ⟨D, rfl, hd, q⟩ := h
  have nd := sc__law_small.nd
  refine ⟨_, (pss_cons (ps_if (pt_cmpR op_eq (pe_call (ok__law_take T) (hr.mono (by decide)) (by rfl) T._law_take.g T._law_take.F.kp T._law_take.b .nil pass0 (pa_cons (pv 0) (pa_cons pe_int pa_nil))) pe_int (nomark _))
        (pss_one (ps_ret (pe_tup (pa_cons pe_int (pa_cons pe_int pa_nil)))))
        pss_nil)
      (pss_one (ps_ret (pe_call (ok__law_frac T) (hr.mono (by decide)) (by rfl) T._law_frac.g T._law_frac.F.kp T._law_frac.b .nil pass0 (pa_cons (pe_op op_sub (pe_call (ok__law_take T) (hr.mono (by decide)) (by rfl) T._law_take.g T._law_take.F.kp T._law_take.b .nil pass0 (pa_cons (pv 0) (pa_cons pe_int pa_nil))) pe_int) (pa_cons (pe_op op_add pe_int (pe_call (ok__law_take T) (hr.mono (by decide)) (by rfl) T._law_take.g T._law_take.F.kp T._law_take.b .nil pass0 (pa_cons (pv 0) (pa_cons pe_int pa_nil)))) pa_nil)))))), ?_⟩
  walk_at "go"
  intro v H1 h0 h1 bu1 d1
  walk_at "go"
  refine ite2 (fun hv => ?_) (fun hv => ?_)
  · walk_at "go"
    intro r nr
    have e := ex_new (o := .tup [.int 0, .int 1]) nr
    exact q r (0, 1) _ upd_same ⟨by decide, by decide, by decide⟩ rfl (bu1.trans (Bu.of e)) (d1.ex e)
  walk_at "go"
  intro u H2 u0 u1 bu2 d2
  walk_at "go"
  intro x H3 x0 x1 bu3 d3
  walk_at "go"
  exact ⟨by omega, pow_up (show (u - 6).natAbs < 2 ^ 3 by omega) (by decide), pow_up (show (1 + x).natAbs < 2 ^ 3 by omega) (by decide), fun r H' nr e hr' => q r _ H' hr' (sm_fr (by omega) (show (u - 6).natAbs < 2 ^ 3 by omega) (show (1 + x).natAbs < 2 ^ 3 by omega)) (fr_gcd (by omega)) (bu1.trans (bu2.trans (bu3.trans (Bu.of e)))) (d3.ex e)⟩
theorem ok__law_pair (T : Txt K mg) : FnOk P w K mg base CX0 4 T._law_pair.f T._law_pair.fd ["_law_deck_here", "_law_names_here"] (spPairL K) := by
  refine T._law_pair.F.ok sc__law_pair (fun vs H Q E h => ?_) (fun cdv A outer s H vs Q E hr h => ?_)
  · obtain ⟨D, F, ns, rfl, _⟩ := h
    rfl
  obtain ⟨D, F, ns, rfl, dk, hF, nFD, ln, un, hn, q⟩ := h
  have nd := sc__law_pair.nd
  refine ⟨_, (pss_cons (ps_setLc (i := 2) (own := [("_law_name", 3)]) (g := gName 3) (tt := tYes) (by rfl) nd rfl rfl (sw_true rfl rfl rfl (by decide +kernel)) (pi_list (pv 1)) (blkOk_by (N := ["_law_deck_here", "_law_names_here", "_law_terms", "_law_name", "_law_pair_here"]) (sc := defScope s__law_pair) (by decide +kernel)) (fun _ _ _ _ _ => pg_name (i := 3) nd rfl (Or.inl rfl)) (fun _ _ _ _ _ => pts_nil) (fun _ _ _ _ _ => (pe_tup (pa_cons (pv 3) (pa_cons (pe_call (ok__law_small T) (hr.mono (by decide)) (by rfl) T._law_small.g T._law_small.F.kp T._law_small.b .nil pass0 (pa_cons (pv 0) pa_nil)) pa_nil)))))
      (pss_one (ps_ret (pe_tup (pa_cons (pe_callTy call_tuple_of (by rfl) T.m_tuple boot_tuple (pa_cons (pe_lc (own := [("_law_pair_here", 4)]) (g := gName 4) rfl nd (pi_list (pv 2)) (blkOk_by (N := ["_law_deck_here", "_law_names_here", "_law_terms", "_law_name", "_law_pair_here"]) (sc := defScope s__law_pair) (by decide +kernel)) (fun _ _ _ _ _ => pg_name (i := 4) nd rfl (Or.inl rfl)) (fun _ _ _ _ _ => pts_one (pt_cmpR (op_neDK K rfl (by exact hr.units)) (pe_ix (ix_tupK K rfl) (pv 4) pe_int (fun _ _ => rfl)) (pe_tup (pa_cons pe_int (pa_cons pe_int pa_nil))) (nomark _))) (fun _ _ _ _ _ => (pv 4))) pa_nil)) (pa_cons (pe_call (ok__law_small T) (hr.mono (by decide)) (by rfl) T._law_small.g T._law_small.F.kp T._law_small.b .nil pass0 (pa_cons (pv 0) pa_nil)) pa_nil)))))), ?_⟩
  walk_at "go"
  refine ⟨⟨_, SqL.of hF⟩, fun C nC => ?_⟩
  have nCD : C ≠ D := dk.ne nC
  have nFC : F ≠ C := fun z => by subst z; rw [hF] at nC; cases nC
  refine lc_it (walk_list (xs := ns.map V.str)) (fun i G => DeckAt G D ∧ Bu D H G ∧ ∃ vs ts, G C = some (.lst vs) ∧ DtA K D G vs (ts.map tmD) ∧ ts.map (·.1) = ns.take i ∧ ∀ t ∈ ts, Sm 3 t.2 ∧ Nat.gcd t.2.1.natAbs t.2.2.natAbs = 1) ⟨dk.ex (ex_new nC), Bu.new nC, [], [], upd_same, .nil, rfl, fun _ h => nomatch h⟩ (fun i G _ g => SqL.of (g.2.1 _ _ nFD hF)) ?_ ?_
  · rintro i v G G' hi ⟨dkG, bu, vs, ts, hC, gx, et, ht⟩ ⟨rfl, hv⟩
    rw [List.getElem?_map] at hv
    obtain ⟨x, hx, rfl⟩ := Option.map_eq_some_iff.mp hv
    have lt : ts.length ≤ i := by
      have z := congrArg List.length et
      rw [List.length_map, List.length_take] at z
      omega
    have lv := gx.len
    rw [List.length_map] at lv hi
    refine ⟨rfl, ?_⟩
    walk_at "go"
    intro r g G1 hr1 sg gg bu1 dk1
    walk_at "go"
    intro p np
    have e2 := ex_new (o := .tup [.str x, .ref r]) np
    have hC1 := bu1 _ _ nCD hC
    have hC2 := e2 _ _ hC1
    have npC : p ≠ C := fun z => by subst z; rw [hC1] at np; cases np
    have dk2 := dk1.ex e2
    walk_at "go"
    have kv := Kv.upd (o2 := .lst (vs ++ [V.ref p])) hC2 rfl
    have gx2 : DtA K D (upd (upd G1 p (.tup [.str x, .ref r])) C (.lst (vs ++ [V.ref p]))) vs (ts.map tmD) := kv.dtA ((gx.bu dkG bu1).ex e2) (noLA_of fun d hd => by
      obtain ⟨y, _, rfl⟩ := List.mem_map.mp hd
      rfl)
    refine ⟨vs, hC2, by rw [sizeLine_eq]; omega, Bt.deck (L := C) (fun b u h e => by rw [upd_ne h]; exact e) nCD dk2, fun a o na ha => ?_, vs ++ [.ref p], ts ++ [(x, g)], upd_same, ?_, ?_, fun t h => ?_⟩
    · rw [upd_ne (fun z => by subst z; rw [nC] at ha; cases ha)]
      exact e2 _ _ (bu1 _ _ na (bu _ _ na ha))
    · rw [List.map_append]
      exact gx2.app (DtA.one (.tup (kv.sqT (SqT.of upd_same)) (.cons (.str x) (.cons (kv.dt (Dt.fr (e2 _ _ hr1)) rfl) .nil))))
    · rw [List.map_append, et, Qj.take_next hx]
      rfl
    · rcases List.mem_append.mp h with h | h
      · exact ht t h
      · rw [List.mem_singleton.mp h]
        exact ⟨sg, gg⟩
  rintro G ⟨dkG, bu, vs, ts, hC, gx, et, ht⟩
  rw [List.length_map, List.take_length] at et
  have lv := gx.len
  rw [List.length_map] at lv
  have lt : ts.length ≤ 5 := by
    have z := congrArg List.length et
    rw [List.length_map] at z
    omega
  walk_at "go"
  refine ⟨⟨_, SqL.of hC⟩, fun L nL => ?_⟩
  have dkn := dkG
  refine lc_it (walk_list (xs := vs)) (fun i G2 => Evl.Ex G G2 ∧ ∃ ws, G2 L = some (.lst ws) ∧ DtA K D G2 ws ((keptT (ts.take i)).map tmD)) ⟨ex_new nL, [], upd_same, .nil⟩ (fun i G2 _ g => SqL.of (g.1 _ _ hC)) ?_ ?_
  · rintro i v G2 G3 hi ⟨e2, ws, hL, gw⟩ ⟨rfl, hv⟩
    obtain ⟨d, hd, dv⟩ := gx.at hv
    rw [List.getElem?_map] at hd
    obtain ⟨⟨x, g⟩, hg, rfl⟩ := Option.map_eq_some_iff.mp hd
    obtain ⟨sg, gg⟩ := ht _ (List.mem_iff_getElem?.mpr ⟨i, hg⟩)
    have dv2 := dv.ex e2
    obtain ⟨pv_, ys, rfl, ty, gy⟩ := Dt.tupA dv2
    obtain ⟨v1, v2, rfl, g1, g2⟩ := two_at gy
    have lw := gw.len
    have lk : (keptT (ts.take i)).length ≤ 5 := Nat.le_trans (List.length_filter_le ..) (Nat.le_trans (List.length_take_le' ..) lt)
    rw [List.length_map] at lw
    have t0 : decide (g.1 ≠ 0) = !PyData.eqv (frD g) (frD (0, 1)) := by
      rw [eqv_fr]
      have fp := sg.p
      dsimp only at gg
      by_cases z : g.1 = 0
      · rw [z, Int.natAbs_zero, Nat.gcd_zero_left] at gg
        have : g.2 = 1 := by
          dsimp only at fp
          omega
        rw [z, this]
        rfl
      · rw [decide_eq_true z, decide_eq_false (fun a => z a.1)]
        rfl
    refine ⟨rfl, ?_⟩
    walk_at "go"
    intro p np
    refine ⟨frD g, frD (0, 1), Dt.dp (D := D) _ rfl (g2.ex (ex_new np)), dp_fr upd_same, rfl, rfl, _, rfl, ?_⟩
    rw [← t0]
    have e3 := ex_new (o := .tup [.int 0, .int 1]) np
    have hL3 := e3 _ _ hL
    have step : ts.take (i + 1) = ts.take i ++ [(x, g)] := Qj.take_next hg
    refine ite2 (fun h3 => ?_) (fun h3 => ?_)
    · walk_at "go"
      have kv := Kv.upd (o2 := .lst (ws ++ [V.ref pv_])) hL3 rfl
      refine ⟨_, hL3, by rw [sizeLine_eq]; omega, ex_upd (e2.trans e3) nL, _, upd_same, ?_⟩
      rw [step]
      unfold keptT
      rw [List.filter_append, List.filter_cons_of_pos (by exact h3), List.map_append]
      exact (kv.dtA (gw.ex e3) (noLA_of fun d hd => by
        obtain ⟨y, _, rfl⟩ := List.mem_map.mp hd
        rfl)).app (DtA.one (kv.dt (dv2.ex e3) rfl))
    · refine ⟨e2.trans e3, ws, hL3, ?_⟩
      rw [step]
      unfold keptT
      rw [List.filter_append, List.filter_cons_of_neg (by exact h3), List.filter_nil, List.append_nil]
      exact gw.ex e3
  rintro G2 ⟨e2, ws, hL, gw⟩
  rw [show vs.length = ts.length from lv, List.take_length] at gw
  walk_at "go"
  refine ⟨L, _, rfl, .inl ⟨SqL.of hL, fun pt npt => ?_⟩⟩
  have e4 := ex_new (o := .tup ws) npt
  have dk4 := dkG.ex (e2.trans e4)
  walk_at "go"
  intro r c G5 hr5 sc gc bu5 dk5
  walk_at "go"
  intro p np
  have e6 := ex_new (o := .tup [.ref pt, .ref r]) np
  have dt4 : Dt K D (upd G2 pt (.tup ws)) (.ref pt) (.tuple ((keptT ts).map tmD)) := .tup (SqT.of upd_same) (gw.ex e4)
  have mem : ∀ t ∈ keptT ts, t ∈ ts ∧ t.2.1 ≠ 0 := fun t h => ⟨(List.mem_filter.mp h).1, of_decide_eq_true (List.mem_filter.mp h).2⟩
  have inn : ∀ t ∈ ts, t.1 ∈ ns := fun t h => by
    rw [← et]
    exact List.mem_map.mpr ⟨t, h, rfl⟩
  refine q (.ref p) (keptT ts) c _ (.tup (SqT.of upd_same) (.cons ((dt4.bu dk4 bu5).ex e6) (.cons ((Dt.fr hr5).ex e6) .nil))) ⟨fun t h => hn _ (inn t (mem t h).1), fun t h => (ht t (mem t h).1).1, fun t h => (ht t (mem t h).1).2, List.Nodup.sublist (List.Sublist.map _ List.filter_sublist) (by rw [et]; exact un), Nat.le_trans (List.length_filter_le ..) (by omega), sc, gc⟩ (fun t h => (mem t h).2) (fun t h => inn t (mem t h).1) (bu.trans ((Bu.of (e2.trans e4)).trans (bu5.trans (Bu.of e6)))) (dk5.ex e6)
theorem ok__law_scaled (T : Txt K mg) : FnOk P w K mg base CX0 3 T._law_scaled.f T._law_scaled.fd ["_law_terms", "_law_constant", "_law_share"] (spScaledL K) := by
  refine T._law_scaled.F.ok sc__law_scaled (fun vs H Q E h => ?_) (fun cdv A outer s H vs Q E hr h => ?_)
  · obtain ⟨D, p, vt, vc, k, j, ts, f, sf, rfl, _⟩ := h
    rfl
  obtain ⟨D, p, vt, vc, kk, j, ts, f, sf, rfl, ht, hc, hp, tk, ss, k0, j0, kb, jb, q⟩ := h
  have nd := sc__law_scaled.nd
  obtain ⟨pt, xs, rfl, tx, gx⟩ := ht.tupA
  obtain ⟨pc, rfl, hc2⟩ := hc.fa
  have lx := gx.len
  rw [List.length_map] at lx
  have ltt := tk.l
  have m1 : kk ≤ max kk j := Nat.le_max_left ..
  have m2 : j ≤ max kk j := Nat.le_max_right ..
  have m0 : 0 < max kk j := by omega
  have m3 : max kk j ≤ 2000 := by omega
  refine ⟨_, (pss_one (ps_ret (pe_tup (pa_cons (pe_callTy call_tuple_of (by rfl) T.m_tuple boot_tuple (pa_cons (pe_lc (own := [("_law_name", 3), ("_law_factor", 4)]) (tt := tYes) rfl nd (pi_tup (pv 0)) (blkOk_by (N := ["_law_terms", "_law_constant", "_law_share", "_law_name", "_law_factor"]) (sc := defScope s__law_scaled) (by decide +kernel)) (fun _ _ _ _ _ => pg_tupK (n := 2) K rfl rfl (pgs_cons (pg_name (i := 3) nd rfl (Or.inl rfl)) (pgs_cons (pg_name (i := 4) nd rfl (Or.inl rfl)) pgs_nil))) (fun _ _ _ _ _ => pts_nil) (fun _ _ _ _ _ => (pe_tup (pa_cons (pv 3) (pa_cons (pe_call (ok__law_times T) (hr.mono (by decide)) (by rfl) T._law_times.g T._law_times.F.kp T._law_times.b .nil pass0 (pa_cons (pv 4) (pa_cons (pv 2) pa_nil))) pa_nil))))) pa_nil)) (pa_cons (pe_call (ok__law_times T) (hr.mono (by decide)) (by rfl) T._law_times.g T._law_times.F.kp T._law_times.b .nil pass0 (pa_cons (pv 1) (pa_cons (pv 2) pa_nil))) pa_nil))))), ?_⟩
  walk_at "go"
  refine ⟨⟨xs, tx⟩, fun C nC => ?_⟩
  refine lc_it (walk_tup (xs := xs)) (fun i G => Evl.Ex H G ∧ ∃ zs, G C = some (.lst zs) ∧ zs.length = i ∧ DtA K D G zs ((mulL sf (ts.take i)).map tmD)) ⟨ex_new nC, [], upd_same, rfl, .nil⟩ (fun i G _ g => sqT_ex g.1 tx) ?_ ?_
  · rintro i v G G' hi ⟨e1, zs, hC, lz, gz⟩ ⟨rfl, hv⟩
    obtain ⟨d, hd, dv⟩ := gx.at hv
    rw [List.getElem?_map] at hd
    obtain ⟨⟨nm, g⟩, hg, rfl⟩ := Option.map_eq_some_iff.mp hd
    have sg := tk.s _ (List.mem_iff_getElem?.mpr ⟨i, hg⟩)
    obtain ⟨pq, ys, rfl, ty, gy⟩ := (dv.ex e1).tupA
    obtain ⟨w1, w2, rfl, g1, g2⟩ := two_at gy
    cases g1
    obtain ⟨pg, rfl, hpg⟩ := g2.fa
    refine ⟨pq, _, rfl, ty, rfl, ?_⟩
    walk_at "go"
    refine ⟨pg, p, g, sf, max kk j, rfl, hpg, sqT_ex e1 hp, sg.mono m1, ss.mono m2, m0, m3, fun p3 G3 np3 e3 hp3 => ?_⟩
    walk_at "go"
    intro p4 np4
    have e4 := ex_new (o := .tup [.str nm, .ref p3]) np4
    have hC4 := (e3.trans e4) _ _ hC
    walk_at "go"
    have kv := Kv.upd (o2 := .lst (zs ++ [V.ref p4])) hC4 rfl
    refine ⟨_, hC4, by rw [lz, sizeLine_eq]; omega, ex_upd (e1.trans (e3.trans e4)) nC, _, upd_same, by rw [List.length_append, lz]; rfl, ?_⟩
    rw [show ts.take (i + 1) = ts.take i ++ [(nm, g)] from Qj.take_next hg]
    unfold mulL
    rw [List.map_append, List.map_append]
    refine DtA.app (kv.dtA (gz.ex (e3.trans e4)) (noLA_of fun d hd => by
      obtain ⟨y, _, rfl⟩ := List.mem_map.mp hd
      rfl)) (DtA.one (.tup (kv.sqT (SqT.of upd_same)) (.cons (.str _) (.cons (kv.dt ((Dt.fr hp3).ex e4) rfl) .nil))))
  rintro G ⟨e1, zs, hC, lz, gz⟩
  rw [lx, List.take_length] at gz
  walk_at "go"
  refine ⟨C, _, rfl, .inl ⟨SqL.of hC, fun pl0 npl => ?_⟩⟩
  have e2 := ex_new (o := .tup zs) npl
  walk_at "go"
  refine ⟨pc, p, f, sf, max kk j, rfl, sqT_ex (e1.trans e2) hc2, sqT_ex (e1.trans e2) hp, tk.fs.mono m1, ss.mono m2, m0, m3, fun p3 G3 np3 e3 hp3 => ?_⟩
  walk_at "go"
  intro p4 np4
  have e4 := ex_new (o := .tup [.ref pl0, .ref p3]) np4
  have d0 : Dt K D (upd G pl0 (.tup zs)) (.ref pl0) (.tuple ((mulL sf ts).map tmD)) := .tup (SqT.of upd_same) (gz.ex e2)
  exact q (.ref p4) _ (.tup (SqT.of upd_same) (.cons (d0.ex (e3.trans e4)) (.cons ((Dt.fr hp3).ex e4) .nil))) (e1.trans (e2.trans (e3.trans e4)))
theorem ok__law_added (T : Txt K mg) : FnOk P w K mg base CX0 3 T._law_added.f T._law_added.fd ["_law_one", "_law_other"] (spAdded K) := by
  refine T._law_added.F.ok sc__law_added (fun vs H Q E h => ?_) (fun cdv A outer s H vs Q E hr h => ?_)
  · obtain ⟨D, v1, v2, j, k, ns, as, bs, f, g, rfl, _⟩ := h
    rfl
  obtain ⟨D, v1, v2, j, kk, ns, as, bs, f, g, rfl, d1, d2, ta, tb, j0, k0, jk, l6, sa, sb, q⟩ := h
  have nd := sc__law_added.nd
  obtain ⟨pa, xa, rfl, ta1, ga1⟩ := Dt.tupA d1
  obtain ⟨u1, u2, rfl, h1, h2⟩ := two_at ga1
  obtain ⟨pat, xs, rfl, tx, gx⟩ := h1.tupA
  obtain ⟨pac, rfl, hac⟩ := h2.fa
  obtain ⟨pb, xb, rfl, tb1, gb1⟩ := Dt.tupA d2
  obtain ⟨w1, w2, rfl, i1, i2⟩ := two_at gb1
  obtain ⟨pbt, ys, rfl, ty, gy⟩ := i1.tupA
  obtain ⟨pbc, rfl, hbc⟩ := i2.fa
  have lx := gx.len
  have ly := gy.len
  have la := ta.l
  have lb := tb.l
  rw [List.length_map] at lx ly
  refine ⟨_, (pss_cons (ps_set (i := 2) nd rfl (.inl rfl) (pe_callB (cr_sortT rfl) (by rfl) T.m_sorted (by decide +kernel) (pa_cons (pe_callTy (cr_setT rfl) (by rfl) T.m_set boot_set (pa_cons (pe_lc (own := [("_law_pair_here", 8)]) (g := gName 8) (tt := tYes) rfl nd (pi_tup (pe_op op_catA (pe_ix ix_tup (pv 0) pe_int (fun _ _ => rfl)) (pe_ix ix_tup (pv 1) pe_int (fun _ _ => rfl)))) (blkOk_by (N := ["_law_one", "_law_other", "_law_names_here", "_law_terms", "_law_name", "_law_factor", "_law_own", "_law_share", "_law_pair_here"]) (sc := defScope s__law_added) (by decide +kernel)) (fun _ _ _ _ _ => pg_name (i := 8) nd rfl (Or.inl rfl)) (fun _ _ _ _ _ => pts_nil) (fun _ _ _ _ _ => (pe_ix (ix_tupK K rfl) (pv 8) pe_int (fun _ _ => rfl)))) pa_nil)) pa_nil)))
      (pss_cons (ps_set (i := 3) nd rfl (.inl rfl) (pe_lst pa_nil))
      (pss_cons (ps_for PassesOwn.never rfl (pi_list (pv 2)) (pg_name (i := 4) nd rfl (.inl rfl))
        (pss_cons (ps_set (i := 5) nd rfl (.inl rfl) (pe_tup (pa_cons pe_int (pa_cons pe_int pa_nil))))
        (pss_cons (ps_for PassesOwn.never rfl (pi_tup (pe_op op_catA (pe_ix ix_tup (pv 0) pe_int (fun _ _ => rfl)) (pe_ix ix_tup (pv 1) pe_int (fun _ _ => rfl)))) (pg_tup rfl (pgs_cons (pg_name (i := 6) nd rfl (.inl rfl)) (pgs_cons (pg_name (i := 7) nd rfl (.inl rfl)) pgs_nil)))
          (pss_one (ps_set (i := 5) nd rfl (.inl rfl) (pe_ifExp (pt_cmpR op_eq (pv 6) (pv 4) (nomark _)) (pe_call (ok__law_plus T) (hr.mono (by decide)) (by rfl) T._law_plus.g T._law_plus.F.kp T._law_plus.b .nil pass0 (pa_cons (pv 5) (pa_cons (pv 7) pa_nil))) (pv 5)))))
        (pss_one (ps_if (pt_cmpR (op_neDK K rfl (by exact hr.units)) (pv 5) (pe_tup (pa_cons pe_int (pa_cons pe_int pa_nil))) (nomark _))
          (pss_one (ps_expr (pe_bm PySem.F.plainAttrs_list PySem.F.slot_list_append PySem.F.type_list_append mt_append (pv 3) (pa_cons (pe_tup (pa_cons (pv 4) (pa_cons (pv 5) pa_nil))) pa_nil))))
          pss_nil)))))
      (pss_one (ps_ret (pe_tup (pa_cons (pe_callTy call_tuple_of (by rfl) T.m_tuple boot_tuple (pa_cons (pv 3) pa_nil)) (pa_cons (pe_call (ok__law_plus T) (hr.mono (by decide)) (by rfl) T._law_plus.g T._law_plus.F.kp T._law_plus.b .nil pass0 (pa_cons (pe_ix ix_tup (pv 0) pe_int (fun _ _ => rfl)) (pa_cons (pe_ix ix_tup (pv 1) pe_int (fun _ _ => rfl)) pa_nil))) pa_nil)))))))), ?_⟩
  walk_at "go"
  refine catA_ok tx ty (by rw [sizeLine_eq]; omega) fun pc Hc ec tc => ?_
  have gc : DtA K D H (xs ++ ys) ((as ++ bs).map tmD) := by
    rw [List.map_append]
    exact gx.app gy
  have lc : (xs ++ ys).length = (as ++ bs).length := by rw [List.length_append, List.length_append, lx, ly]
  have lab : (as ++ bs).length ≤ 12 := by
    rw [List.length_append]
    omega
  have lab2 : (as ++ bs).length = as.length + bs.length := List.length_append
  generalize xs ++ ys = cv at tc gc lc
  walk_at "go"
  refine ⟨⟨_, tc⟩, fun C nC => ?_⟩
  refine lc_it (walk_tup (xs := cv)) (fun i G => Evl.Ex Hc G ∧ G C = some (.lst ((((as ++ bs).take i).map (·.1)).map V.str))) ⟨ex_new nC, upd_same⟩ (fun i G _ z => sqT_ex z.1 tc) ?_ ?_
  · rintro i v G G' hi ⟨e1, hC⟩ ⟨rfl, hv⟩
    obtain ⟨d, hd, dv⟩ := gc.at hv
    rw [List.getElem?_map] at hd
    obtain ⟨t, ht, rfl⟩ := Option.map_eq_some_iff.mp hd
    obtain ⟨pq, zs, rfl, tz, gz⟩ := (dv.ex (ec.trans e1)).tupA
    obtain ⟨v1, v2, rfl, g1, g2⟩ := two_at gz
    cases g1
    have lt : ((as ++ bs).take i).length ≤ i := List.length_take_le ..
    refine ⟨rfl, ?_⟩
    walk_at "go"
    refine ⟨_, hC, by rw [List.length_map, List.length_map, sizeLine_eq]; omega, ex_upd e1 nC, ?_⟩
    rw [upd_same, Qj.take_next ht, List.map_append, List.map_append]
    rfl
  rintro G0 ⟨e1, hC⟩
  rw [lc, List.take_length] at hC
  walk_at "go"
  refine ⟨C, (as ++ bs).map (·.1), rfl, SqL.of hC, by rw [List.length_map]; exact Nat.lt_of_le_of_lt lab (by decide), fun S M n nS m1 m2 lm => ?_⟩
  walk_at "go"
  rw [List.length_map] at lm
  refine ⟨S, M, n, rfl, upd_same, m1, by rw [sizeLine_eq]; omega, fun nm N sN nN mN _ nNl => ?_⟩
  have eN : Evl.Ex H (upd (upd G0 S (SetTO P w S M n)) N (.lst (nm.map V.str))) := ec.trans (e1.trans ((ex_new nS).trans (ex_new nNl)))
  have memN : ∀ x, x ∈ nm ↔ x ∈ (as ++ bs).map (·.1) := fun x => (mN x).trans (m2 x)
  have hN0 : (upd (upd G0 S (SetTO P w S M n)) N (.lst (nm.map V.str))) N = some (.lst (nm.map V.str)) := upd_same
  have inn : ∀ x ∈ nm, x ∈ ns := fun x hx => by
    have z := (memN x).mp hx
    rw [List.map_append, List.mem_append] at z
    rcases z with z | z
    · obtain ⟨t, ht, rfl⟩ := List.mem_map.mp z
      exact sa t ht
    · obtain ⟨t, ht, rfl⟩ := List.mem_map.mp z
      exact sb t ht
  have isN : ∀ x ∈ nm, Nm x := fun x hx => by
    have z := (memN x).mp hx
    rw [List.map_append, List.mem_append] at z
    rcases z with z | z
    · obtain ⟨t, ht, rfl⟩ := List.mem_map.mp z
      exact ta.n t ht
    · obtain ⟨t, ht, rfl⟩ := List.mem_map.mp z
      exact tb.n t ht
  have lnm : nm.length ≤ 6 := Nat.le_trans (nodup_le nN inn) l6
  walk_at "go"
  intro L nL
  have e0 := ex_new (o := .lst []) nL
  walk_at "go"
  refine ⟨⟨_, SqL.of (e0 _ _ hN0)⟩, for_list (xs := nm.map V.str) (fun i σ G => ∃ (y4 y5 y6 y7 y8 : Option V) (vs : List V) (zs : List Qj.Tm), σ = [some (.ref pa), some (.ref pb), some (.ref N), some (.ref L), y4, y5, y6, y7, y8] ∧ Evl.Ex (upd (upd G0 S (SetTO P w S M n)) N (.lst (nm.map V.str))) G ∧ G L = some (.lst vs) ∧ DtA K D G vs (zs.map tmD) ∧ (zs.map (·.1)).Nodup ∧ (∀ t ∈ zs, t.1 ∈ nm.take i ∧ Sm (j + kk + 1) t.2 ∧ Lowt t.2 ∧ t.2.1 ≠ 0) ∧ ∀ x ∈ nm.take i, cT zs x = cT as x + cT bs x) ?_ ?_ ?_ ?_⟩
  · exact ⟨_, _, _, _, _, [], [], rfl, e0, upd_same, .nil, List.nodup_nil, (fun t h => nomatch h), fun x h => nomatch h⟩
  · rintro i σ G hi ⟨y4, y5, y6, y7, y8, vs, zs, rfl, eG, hL, gz, nz, mz, cz⟩
    exact SqL.of (eG _ _ hN0)
  · rintro i v σ G hx ⟨y4, y5, y6, y7, y8, vs, zs, rfl, eG, hL, gz, nz, mz, cz⟩
    rw [List.getElem?_map] at hx
    obtain ⟨x, hx2, rfl⟩ := Option.map_eq_some_iff.mp hx
    have hi := (List.getElem?_eq_some_iff.mp hx2).1
    walk_at "go"
    intro p np
    have e1 := ex_new (o := .tup [.int 0, .int 1]) np
    have eH1 := eN.trans (eG.trans e1)
    have a1 := sqT_ex eH1 ta1
    have b1 := sqT_ex eH1 tb1
    walk_at "go"
    refine catA_ok (sqT_ex eH1 tx) (sqT_ex eH1 ty) (by rw [sizeLine_eq]; omega) fun pc2 G1 e2 tc2 => ?_
    have eH2 := eH1.trans e2
    have gc2 : DtA K D H (xs ++ ys) ((as ++ bs).map tmD) := by
      rw [List.map_append]
      exact gx.app gy
    walk_at "go"
    refine ⟨⟨_, tc2⟩, for_tup (xs := xs ++ ys) (fun i2 σ G2 => ∃ (q5 : Addr) (y6 y7 y8 : Option V) (v : Int × Int), σ = [some (.ref pa), some (.ref pb), some (.ref N), some (.ref L), some (.str x), some (.ref q5), y6, y7, y8] ∧ Evl.Ex G1 G2 ∧ FrA K G2 q5 v ∧ Lowt v ∧ rv v = upTo as bs i2 x) ?_ ?_ ?_ ?_⟩
    · refine ⟨p, _, _, _, (0, 1), rfl, .refl _, SqT.of (e2 _ _ upd_same), lw_01, ?_⟩
      show _ = rv (0, 1) + rv (cfT (bs.take (0 - as.length)) x)
      rw [Nat.zero_sub]
      show _ = rv (0, 1) + rv (0, 1)
      rw [rv_01]
      grind
    · rintro i2 σ G2 hj ⟨q5, y6, y7, y8, v, rfl, e3, hq, lv, ev⟩
      exact sqT_ex e3 tc2
    · rintro i2 w σ G2 hw ⟨q5, y6, y7, y8, v, rfl, e3, hq, lv, ev⟩
      obtain ⟨d, hd, dv⟩ := gc2.at hw
      rw [List.getElem?_map] at hd
      obtain ⟨⟨own, g0⟩, hgt, rfl⟩ := Option.map_eq_some_iff.mp hd
      have mg := List.mem_iff_getElem?.mpr ⟨_, hgt⟩
      have sg0 : Sm (j + kk + 1) g0 ∧ Lowt g0 := by
        rcases List.mem_append.mp mg with h | h
        · exact ⟨(ta.s _ h).mono (by omega), (ta.s _ h).p, ta.g _ h⟩
        · exact ⟨(tb.s _ h).mono (by omega), (tb.s _ h).p, tb.g _ h⟩
      obtain ⟨pq, us, rfl, tu, gu⟩ := (dv.ex (eH2.trans e3)).tupA
      obtain ⟨w1, w2, rfl, g1, g2⟩ := two_at gu
      cases g1
      obtain ⟨pg, rfl, hg⟩ := g2.fa
      have nx := upTo_next ta.u tb.u hgt x
      have sv := upTo_sm ta tb l6 sa sb j0 lv ev
      refine ⟨pq, _, rfl, tu, rfl, ?_⟩
      walk_at "go"
      refine ite2 (fun h1 => ?_) (fun h1 => ?_)
      · have en : own = x := by simpa using h1
        rw [if_pos en] at nx
        walk_at "go"
        refine ⟨q5, pg, v, g0, j + kk + 1, rfl, hq, hg, sv, sg0.1, by omega, by omega, fun p3 G3 np3 e4 hp3 => ?_⟩
        walk_at "go"
        exact ⟨p3, _, _, _, pl v g0, rfl, e3.trans e4, SqT.of hp3, lw_pl lv.p sg0.2.p, by rw [rv_pl lv.p sg0.2.p, ev, nx]⟩
      · have en : ¬ own = x := by simpa using h1
        rw [if_neg en] at nx
        walk_at "go"
        exact ⟨q5, _, _, _, v, rfl, e3, hq, lv, by rw [ev, nx]; grind⟩
    rintro σ G2 ⟨q5, y6, y7, y8, v, rfl, e3, hq, lv, ev⟩
    have sv := upTo_sm ta tb l6 sa sb j0 lv ev
    rw [List.length_append, lx, ly, upTo_all] at ev
    have e13 := e1.trans (e2.trans e3)
    have hL2 := e13 _ _ hL
    have st : nm.take (i + 1) = nm.take i ++ [x] := Qj.take_next hx2
    have new : x ∉ zs.map (·.1) := fun hm => by
      obtain ⟨t, ht, et⟩ := List.mem_map.mp hm
      have z := (mz t ht).1
      rw [et] at z
      exact not_before nN hx2 z
    have lz := gz.len
    rw [List.length_map] at lz
    have lz2 : zs.length ≤ 6 := Nat.le_trans (len_in nz fun t ht => List.mem_of_mem_take (mz t ht).1) lnm
    walk_at "go"
    intro p5 np5
    have e5 := ex_new (o := .tup [.int 0, .int 1]) np5
    refine ⟨frD v, frD (0, 1), Dt.dp (D := D) _ rfl (FrA.d (hq.ex e5)), dp_fr upd_same, rfl, rfl, _, rfl, ?_⟩
    rw [eqv_zero lv]
    refine ite2 (fun h3 => ?_) (fun h3 => ?_)
    · walk_at "go"
      refine ⟨.inl ⟨rfl, _, SqL.of (e5 _ _ hL2)⟩, ?_⟩
      walk_at "go"
      intro p6 np6
      have e6 := ex_new (o := .tup [.str x, .ref q5]) np6
      have hL6 := e6 _ _ (e5 _ _ hL2)
      have kv := Kv.upd (o2 := .lst (vs ++ [V.ref p6])) hL6 rfl
      have e56 := e13.trans (e5.trans e6)
      walk_at "go"
      refine ⟨L, _, _, rfl, rfl, hL6, by rw [sizeLine_eq]; omega, ?_⟩
      refine ⟨_, _, _, _, _, vs ++ [.ref p6], zs ++ [(x, v)], rfl, ex_upd (eG.trans e56) nL, upd_same, ?_, ?_, fun t ht => ?_, fun y hy => ?_⟩
      · rw [List.map_append]
        exact (kv.dtA (gz.ex e56) (noLA_of fun d hd => by
          obtain ⟨y, _, rfl⟩ := List.mem_map.mp hd
          rfl)).app (DtA.one (.tup (kv.sqT (SqT.of upd_same)) (.cons (.str x) (.cons (kv.dt (FrA.d (hq.ex (e5.trans e6))) rfl) .nil))))
      · rw [List.map_append, List.nodup_append]
        refine ⟨nz, by simp, fun a ha b hb e => ?_⟩
        rw [List.mem_singleton.mp hb] at e
        have e2 : a = x := e
        subst e2
        exact new ha
      · rw [st]
        rcases List.mem_append.mp ht with h | h
        · obtain ⟨z1, z2⟩ := mz t h
          exact ⟨List.mem_append_left _ z1, z2⟩
        · rw [List.mem_singleton.mp h]
          exact ⟨List.mem_append_right _ (List.mem_singleton.mpr rfl), sv, lv, of_decide_eq_true h3⟩
      · rw [st] at hy
        unfold cT at cz ⊢
        by_cases ey : y = x
        · subst ey
          rw [cfT_app (fun t ht e => new (by rw [← e]; exact List.mem_map.mpr ⟨t, ht, rfl⟩)), cfT_cons, if_pos rfl]
          exact ev
        · rw [cfT_app' (fun t ht => by rw [List.mem_singleton.mp ht]; exact fun e => ey e.symm)]
          rcases List.mem_append.mp hy with h | h
          · exact cz y h
          · exact absurd (List.mem_singleton.mp h) ey
    · have v0 : v.1 = 0 := Classical.byContradiction fun z => h3 (decide_eq_true z)
      have e56 := e13.trans e5
      walk_at "go"
      refine ⟨_, _, _, _, _, vs, zs, rfl, eG.trans e56, e56 _ _ hL, gz.ex e56, nz, fun t ht => ?_, fun y hy => ?_⟩
      · rw [st]
        obtain ⟨z1, z2⟩ := mz t ht
        exact ⟨List.mem_append_left _ z1, z2⟩
      · rw [st] at hy
        rcases List.mem_append.mp hy with h | h
        · exact cz y h
        · rw [List.mem_singleton.mp h, ← show rv v = cT as x + cT bs x from ev, (rv_zero lv.p).mpr v0]
          unfold cT
          rw [cfT_none (fun t ht e => new (by rw [← e]; exact List.mem_map.mpr ⟨t, ht, rfl⟩)), rv_01]
  rintro σ G ⟨y4, y5, y6, y7, y8, vs, zs, rfl, eG, hL, gz, nz, mz, cz⟩
  rw [List.length_map, List.take_length] at mz cz
  have eA := eN.trans eG
  walk_at "go"
  refine ⟨L, _, rfl, .inl ⟨SqL.of hL, fun pt npt => ?_⟩⟩
  have e2 := ex_new (o := .tup vs) npt
  have eB := eA.trans e2
  have a1 := sqT_ex eB ta1
  have b1 := sqT_ex eB tb1
  walk_at "go"
  refine ⟨pac, pbc, f, g, j + kk + 1, rfl, sqT_ex eB hac, sqT_ex eB hbc, ta.fs.mono (by omega), tb.fs.mono (by omega), by omega, by omega, fun p3 G3 np3 e3 hp3 => ?_⟩
  walk_at "go"
  intro p4 np4
  have e4 := ex_new (o := .tup [.ref pt, .ref p3]) np4
  have d0 : Dt K D (upd G pt (.tup vs)) (.ref pt) (.tuple (zs.map tmD)) := .tup (SqT.of upd_same) (gz.ex e2)
  refine q (.ref p4) zs (pl f g) _ (.tup (SqT.of upd_same) (.cons (d0.ex (e3.trans e4)) (.cons ((Dt.fr hp3).ex e4) .nil))) ⟨fun t ht => isN _ (mz t ht).1, fun t ht => (mz t ht).2.1, fun t ht => (mz t ht).2.2.1.g, nz, Nat.le_trans (len_in nz fun t ht => (mz t ht).1) lnm, sm_pl ta.fs tb.fs, (lw_pl ta.fs.p tb.fs.p).g⟩ (fun t ht => (mz t ht).2.2.2) (fun t ht => inn _ (mz t ht).1) (fun x => ?_) (rv_pl ta.fs.p tb.fs.p) (eB.trans (e3.trans e4))
  by_cases hx : x ∈ nm
  · exact cz x hx
  · have no : ∀ t ∈ as ++ bs, t.1 ≠ x := fun t ht e => hx ((memN x).mpr (by rw [← e]; exact List.mem_map.mpr ⟨t, ht, rfl⟩))
    unfold cT
    rw [cfT_none (fun t ht e => hx (by rw [← e]; exact (mz t ht).1)), cfT_none (fun t ht => no t (List.mem_append_left _ ht)), cfT_none (fun t ht => no t (List.mem_append_right _ ht)), rv_01]
    grind
end
end K10
set_option pp.maxSteps 600
set_option pp.deepTerms false
namespace K10
open PySem PySem.Spec PyProof.Rows L2 Qj
local macro_rules | `(tactic| walk_at "go") => `(tactic| repeat (first
  | (refine ⟨_, rfl, ?_⟩)
  | (refine ⟨_, _, rfl, rfl, ?_⟩)
  | (refine ⟨_, _, rfl, ?_⟩)
  | (refine ⟨_, _, _, _, rfl, rfl, SqL.of (by assumption), rfl, ?_⟩)
  | (refine ⟨_, _, _, _, rfl, rfl, SqL.of upd_same, rfl, ?_⟩)
  | (refine ⟨_, _, _, _, rfl, rfl, SqT.of (by assumption), rfl, ?_⟩)
  | (refine ⟨_, _, _, _, rfl, rfl, SqT.of upd_same, rfl, ?_⟩)
  | (refine ⟨_, _, _, _, rfl, rfl, (by assumption), rfl, ?_⟩)
  | (refine ⟨_, _, _, _, rfl, rfl, upd_same, rfl, ?_⟩)
  | (refine ⟨_, _, rfl, Or.inl (by assumption), ?_⟩)
  | (refine ⟨_, _, rfl, Or.inr (SqT.of (by assumption)), ?_⟩)
  | (refine ⟨_, _, rfl, Or.inr (SqT.of upd_same), ?_⟩)
  | (refine ⟨_, _, rfl, Or.inl (SqL.of (by assumption)), ?_⟩)
  | (refine ⟨_, _, rfl, Or.inr (by assumption : SqT _ _ _ _), ?_⟩)
  | (refine ⟨_, _, rfl, (by assumption : SqT _ _ _ _), rfl, ?_⟩)
  | (refine ⟨_, _, rfl, SqT.of upd_same, rfl, ?_⟩)
  | (refine ⟨_, _, rfl, SqT.of (by assumption), rfl, ?_⟩)
  | (refine ⟨_, _, rfl, Kn.int _, ?_⟩)
  | (refine ⟨_, _, rfl, (by assumption : Kn _ _ _), ?_⟩)
  | (refine iteNS rfl ?_)
  | (refine iteF ?_)
  | (refine iteT ?_)
  | (refine Or.inl ⟨_, rfl, ?_⟩)
  | (refine Or.inr ⟨_, rfl, ?_⟩)
  | (refine And.intro sz4 ?_)
  | (refine And.intro (by first | exact rfl | assumption | decide | (show (0 : Int) < _; decide) | exact wide_div (b := 63) (by assumption) (by omega) (by decide) (by decide) | exact wide_div (b := 63) (by decide) (by decide) (by decide) (by decide) | exact Or.inl ⟨by decide, by decide⟩ | exact Or.inr ⟨by decide, by decide⟩ | exact ⟨by decide, by decide, by decide⟩ | exact Or.inl ⟨by omega, by omega⟩ | exact Or.inr ⟨by omega, by omega⟩) ?_)))

section
variable {P : Program} {w : World} {K : PySem.W.Frag} {mg : Str → Option Value} {base : Heap}
theorem ints_vals {D : Addr} {H : Hp} : ∀ {js : List Int} {vs : List V}, DtA K D H vs (js.map PyData.int) → vs = js.map V.int
  | [], _, h => by
    cases h
    rfl
  | j :: r, _, h => by
    cases h with
    | cons h t =>
      cases h
      rw [ints_vals t]
      rfl
theorem ok__law_adds_up (T : Txt K mg) : FnOk P w K mg base CX0 5 T._law_adds_up.f T._law_adds_up.fd ["_law_pairs", "_law_paper"] (spUp K) := by
  refine T._law_adds_up.F.ok sc__law_adds_up (fun vs H Q E h => ?_) (fun cdv A outer s H vs Q E hr h => ?_)
  · obtain ⟨D, L, v, d, ns, cs, xs, rfl, _⟩ := h
    rfl
  obtain ⟨D, L, v, d, ns, cs, xs, rfl, hL, gx, lc, okc, l6, hd, ok, q⟩ := h
  have nd := sc__law_adds_up.nd
  have lx := gx.len
  rw [List.length_map] at lx
  have sh := ok.sh
  have few := ok.few
  obtain ⟨k, ty, k1, k2, k3, k4⟩ := hd.ty
  have no : shrD xs.length d = false → ∀ {H'}, Evl.Ex H H' → Q (.bl false) H' := fun z {H'} e => by
    rw [lx] at z
    exact q false _ ⟨(fun y => nomatch y), fun y => absurd y (pap_no z)⟩ e
  refine ⟨_, (pss_cons (ps_if (PW.pt (pw_or (pt_not (pt_val (pe_callB (cr_isiK K rfl) (by rfl) T.m_isinstance (by decide +kernel) (pa_cons (pv 1) (pa_cons (pe_bltn (v := .ty "tuple") (by rfl) T.m_tuple (by decide +kernel) rfl) pa_nil))))) (pw_or1 (pt_cmpR op_ne (pe_callB call_len_seq (by rfl) T.m_len (by decide +kernel) (pa_cons (pv 1) pa_nil)) (pe_callB call_len_seq (by rfl) T.m_len (by decide +kernel) (pa_cons (pv 0) pa_nil)) (nomark _)))))
        (pss_one (ps_ret pe_bl))
        pss_nil)
      (pss_cons (ps_if (pt_not (pt_val (pe_callB (cr_all rfl) (by rfl) T.m_all (by decide +kernel) (pa_cons (pe_lc (own := [("_law_one", 5)]) (g := gName 5) (tt := tYes) rfl nd (pi_tup (pv 1)) (blkOk_by (N := ["_law_pairs", "_law_paper", "_law_found", "_law_is_strict", "_law_k", "_law_one"]) (sc := defScope s__law_adds_up) (by decide +kernel)) (fun _ _ _ _ _ => pg_name (i := 5) nd rfl (Or.inl rfl)) (fun _ _ _ _ _ => pts_nil) (fun _ _ _ _ _ => (pe_and (pe_callB (cr_isiK K rfl) (by rfl) T.m_isinstance (by decide +kernel) (pa_cons (pv 5) (pa_cons (pe_bltn (v := .ty "int") (by rfl) T.m_int (by decide +kernel) rfl) pa_nil))) (pe_and (pe_not (pe_callB (cr_isiK K rfl) (by rfl) T.m_isinstance (by decide +kernel) (pa_cons (pv 5) (pa_cons (pe_bltn (v := .ty "bool") (by rfl) T.m_bool (by decide +kernel) rfl) pa_nil)))) (pe_one (pe_cmpR op_ge (pv 5) pe_int (nomark _))))))) pa_nil))))
        (pss_one (ps_ret pe_bl))
        pss_nil)
      (pss_cons (ps_asg (pe_tup (pa_cons (pe_tup (pa_cons (pe_tup pa_nil) (pa_cons (pe_tup (pa_cons pe_int (pa_cons pe_int pa_nil))) pa_nil))) (pa_cons pe_bl pa_nil))) (pg_tup rfl (pgs_cons (pg_name (i := 2) nd rfl (.inl rfl)) (pgs_cons (pg_name (i := 3) nd rfl (.inl rfl)) pgs_nil))))
      (pss_cons (ps_for PassesOwn.never rfl (pi_range1 rfl T.m_range (pa_cons (pe_callB call_len_seq (by rfl) T.m_len (by decide +kernel) (pa_cons (pv 0) pa_nil)) pa_nil)) (pg_name (i := 4) nd rfl (.inl rfl))
        (pss_cons (ps_set (i := 2) nd rfl (.inl rfl) (pe_call (ok__law_added T) (hr.mono (by decide)) (by rfl) T._law_added.g T._law_added.F.kp T._law_added.b .nil pass0 (pa_cons (pv 2) (pa_cons (pe_call (ok__law_scaled T) (hr.mono (by decide)) (by rfl) T._law_scaled.g T._law_scaled.F.kp T._law_scaled.b .nil pass0 (pa_cons (pe_ix ix_tup (pe_ix ix_tup (pe_ix ix_list (pv 0) (pv 4) (fun _ _ => rfl)) pe_int (fun _ _ => rfl)) pe_int (fun _ _ => rfl)) (pa_cons (pe_ix ix_tup (pe_ix ix_tup (pe_ix ix_list (pv 0) (pv 4) (fun _ _ => rfl)) pe_int (fun _ _ => rfl)) pe_int (fun _ _ => rfl)) (pa_cons (pe_tup (pa_cons (pe_ix ix_tup (pv 1) (pv 4) (fun _ _ => rfl)) (pa_cons pe_int pa_nil))) pa_nil)))) pa_nil))))
        (pss_one (ps_set (i := 3) nd rfl (.inl rfl) (pe_or (pv 3) (pe_one (pe_and (pe_ix ix_tup (pe_ix ix_list (pv 0) (pv 4) (fun _ _ => rfl)) pe_int (fun _ _ => rfl)) (pe_one (pe_cmpR op_gt (pe_ix ix_tup (pv 1) (pv 4) (fun _ _ => rfl)) pe_int (nomark _))))))))))
      (pss_one (ps_ret (pe_and (pe_cmpR (op_eqDK K rfl (by exact hr.units)) (pe_ix ix_tup (pv 2) pe_int (fun _ _ => rfl)) (pe_tup pa_nil) (nomark _)) (pe_one (pe_or (pe_cmpR op_lt (pe_ix ix_tup (pe_ix ix_tup (pv 2) pe_int (fun _ _ => rfl)) pe_int (fun _ _ => rfl)) pe_int (nomark _)) (pe_one (pe_and (pe_cmpR op_eq (pe_ix ix_tup (pe_ix ix_tup (pv 2) pe_int (fun _ _ => rfl)) pe_int (fun _ _ => rfl)) pe_int (nomark _)) (pe_one (pv 3))))))))))))), ?_⟩
  walk_at "go"
  refine ⟨_, _, _, _, _, rfl, ClsV.ty _, ty, kd_tup _ _, _, rfl, ?_⟩
  rw [k1]
  cases hd with
  | @tup pa vs ds hT g =>
    refine iteF ?_
    have fw := few ds rfl
    have lv := g.len
    walk_at "go"
    have ld : decide (V.int ((vs.length : Nat) : Int) = V.int ((xs.length : Nat) : Int)) = decide (ds.length = xs.length) := by
      rw [lv]
      by_cases z : ds.length = xs.length
      · rw [z, decide_eq_true rfl, decide_eq_true rfl]
      · rw [decide_eq_false (fun y => z (by injection y with y; omega)), decide_eq_false z]
    have no' : (decide (ds.length = xs.length) && ds.all shr) = false → ∀ {H'}, Evl.Ex H H' → Q (.bl false) H' := no
    rw [ld]
    refine ite2 (fun h1 => ?_) (fun h1 => ?_)
    · walk_at "go"
      exact no' (by rw [not_t h1, Bool.false_and]) (.refl _)
    rw [not_f h1, Bool.true_and] at no'
    walk_at "go"
    refine ⟨⟨_, hT⟩, fun C nC => lc_it (walk_tup (xs := vs)) (fun i G => Evl.Ex H G ∧ G C = some (.lst (((ds.take i).map shr).map V.bl))) ⟨ex_new nC, upd_same⟩ (fun i G _ z => sqT_ex z.1 hT) ?_ ?_⟩
    · rintro i v G G' hi ⟨eG, hC⟩ ⟨rfl, hv⟩
      obtain ⟨d, hd, dv⟩ := g.at hv
      obtain ⟨k, ty, k1, k2, k3, k4⟩ := (dv.ex eG).ty
      have lt : (ds.take i).length ≤ i := List.length_take_le ..
      have fin : ∀ b, b = shr d → ∃ acc, G' C = some (.lst acc) ∧ acc.length < sizeLine ∧ Evl.Ex H (upd G' C (.lst (acc ++ [.bl b]))) ∧ upd G' C (.lst (acc ++ [.bl b])) C = some (.lst (((ds.take (i + 1)).map shr).map V.bl)) := fun b eb => by
        refine ⟨_, hC, by rw [List.length_map, List.length_map, sizeLine_eq]; omega, ex_upd eG nC, ?_⟩
        rw [upd_same, Qj.take_next hd, List.map_append, List.map_append, eb]
        rfl
      refine ⟨rfl, ?_⟩
      walk_at "go"
      refine ⟨_, _, _, _, _, rfl, ClsV.ty _, ty, kd_int _ _, _, rfl, ?_⟩
      rw [k2, k3]
      cases d with
      | int i0 =>
        refine iteT ?_
        walk_at "go"
        refine ⟨_, _, _, _, _, rfl, ClsV.ty _, ty, kd_bool _ _, ?_⟩
        rw [k3]
        walk_at "go"
        cases dv
        walk_at "go"
        exact fin _ rfl
      | bool b0 =>
        refine iteT ?_
        walk_at "go"
        refine ⟨_, _, _, _, _, rfl, ClsV.ty _, ty, kd_bool _ _, ?_⟩
        rw [k3]
        walk_at "go"
        exact fin _ rfl
      | _ =>
        refine iteF ?_
        exact fin _ rfl
    rintro G ⟨eG, hC⟩
    rw [lv, List.take_length] at hC
    walk_at "go"
    refine ⟨C, _, rfl, SqL.of hC, ?_⟩
    walk_at "go"
    rw [List.all_map, show ds.all (id ∘ shr) = ds.all shr from rfl]
    refine ite2 (fun h2 => ?_) (fun h2 => ?_)
    · exact no' (not_t h2) eG
    have lds : ds.length = xs.length := of_decide_eq_true (not_f h1)
    obtain ⟨js, rfl, nj⟩ := shr_ints (not_f h2)
    obtain rfl := ints_vals g
    have bj := ok.bd js rfl
    rw [List.length_map] at lds
    have lj : js.length = cs.length := by omega
    generalize hps : cs.zip js = ps at q
    have lps : ps.length = cs.length := by rw [← hps, List.length_zip]; omega
    have iff0 := pap_of (ns := ns) (cs := cs) lj nj
    rw [hps] at iff0
    walk_at "go"
    intro p0 n0
    have f0 := ex_new (o := .tup []) n0
    walk_at "go"
    intro p1 n1
    have f1 := ex_new (o := .tup [.int 0, .int 1]) n1
    walk_at "go"
    intro p2 n2
    have f2 := ex_new (o := .tup [.ref p0, .ref p1]) n2
    walk_at "go"
    intro p3 n3
    have f3 := ex_new (o := .tup [.ref p2, .bl false]) n3
    have eF := eG.trans (f0.trans (f1.trans (f2.trans f3)))
    have d0 : Dt K D (upd (upd (upd (upd G p0 (.tup [])) p1 (.tup [.int 0, .int 1])) p2 (.tup [.ref p0, .ref p1])) p3 (.tup [.ref p2, .bl false])) (.ref p2) (fD [] (0, 1)) := .tup (SqT.of (f3 _ _ upd_same)) (.cons (.tup (SqT.of ((f1.trans (f2.trans f3)) _ _ upd_same)) .nil) (.cons ((Dt.fr upd_same).ex (f2.trans f3)) .nil))
    have tk0 : TsK 1 [] ((0, 1) : Int × Int) := ⟨(fun t h => nomatch h), (fun t h => nomatch h), (fun t h => nomatch h), List.nodup_nil, by decide, ⟨by decide, by decide, by decide⟩, by decide⟩
    refine ⟨p3, _, rfl, SqT.of upd_same, rfl, ?_⟩
    walk_at "go"
    refine ⟨L, _, rfl, .inl (SqL.of (eF _ _ hL)), ?_⟩
    walk_at "go"
    refine ⟨by omega, by rw [lx]; omega, for_range (n := ((xs.length : Nat) : Int).toNat) (fun i σ G => ∃ (pf : V) (b : Bool) (y4 y5 : Option V) (zs : List Qj.Tm) (h : Int × Int), σ = [some (.ref L), some (.ref pa), some pf, some (.bl b), y4, y5] ∧ Evl.Ex H G ∧ Dt K D G pf (fD zs h) ∧ TsK (1 + 69 * i) zs h ∧ NZ zs ∧ (∀ t ∈ zs, t.1 ∈ ns) ∧ (∀ x, cT zs x = zS x (ps.take i)) ∧ rv h = zC (ps.take i) ∧ b = zB (ps.take i)) ?_ ?_ ?_⟩
    · exact ⟨.ref p2, false, _, _, [], (0, 1), rfl, eF, d0, tk0, (fun t h => nomatch h), (fun t h => nomatch h), (fun x => rv_01), rv_01, rfl⟩
    · rintro i σ G2 hi ⟨pf, b, y4, y5, zs, h, rfl, e, df, tk, nz, sz, cz, ch, bz⟩
      rw [Int.toNat_natCast] at hi
      obtain ⟨c, hc⟩ : ∃ c, cs[i]? = some c := ⟨_, List.getElem?_eq_getElem (by omega)⟩
      obtain ⟨j, hj⟩ : ∃ j, js[i]? = some j := ⟨_, List.getElem?_eq_getElem (by omega)⟩
      obtain ⟨v, hv⟩ : ∃ v, xs[i]? = some v := ⟨_, List.getElem?_eq_getElem hi⟩
      have hpi : ps[i]? = some (c, j) := by
        rw [← hps]
        exact List.getElem?_zip_eq_some.mpr ⟨hc, hj⟩
      obtain ⟨d, hd, dv⟩ := gx.at hv
      rw [List.getElem?_map, hc] at hd
      cases hd
      have okcc := okc c (List.mem_iff_getElem?.mpr ⟨i, hc⟩)
      have bj5 := bj j (List.mem_iff_getElem?.mpr ⟨i, hj⟩)
      obtain ⟨pq, ys, rfl, ty2, gy⟩ := (dv.ex e).tupA
      obtain ⟨w1, w2, rfl, g1, g2⟩ := two_at gy
      cases g2
      obtain ⟨pg, zz, rfl, tz, gz⟩ := g1.tupA
      obtain ⟨u1, u2, rfl, h3, h4⟩ := two_at gz
      have hL2 := e _ _ hL
      have hT2 := sqT_ex e hT
      have ax : atI xs (0 + (i : Int)) = some (.ref pq) := by rw [Int.zero_add]; exact atI_nat hv
      have aj : atI (js.map V.int) (0 + (i : Int)) = some (.int j) := by rw [Int.zero_add]; exact atI_nat (by rw [List.getElem?_map, hj]; rfl)
      have sj : Sm 5 ((j, 1) : Int × Int) := ⟨bj5, (show (1 : Int).natAbs < 2 ^ 5 by decide), (by decide : (0 : Int) < 1)⟩
      obtain ⟨tk5, ec5, eh5⟩ := mul_ok okcc.t sj
      have sub5 : ∀ t ∈ mulL (j, 1) c.ts, t.1 ∈ ns := fun t ht => by
        obtain ⟨u, hu, rfl⟩ := List.mem_map.mp ht
        exact okcc.i u hu
      have st : ps.take (i + 1) = ps.take i ++ [(c, j)] := Qj.take_next hpi
      walk_at "go"
      refine ⟨L, _, _, _, rfl, rfl, SqL.of hL2, ax, ?_⟩
      walk_at "go"
      refine ⟨L, _, _, _, rfl, rfl, SqL.of hL2, ax, ?_⟩
      walk_at "go"
      refine ⟨pa, _, _, _, rfl, rfl, hT2, aj, ?_⟩
      walk_at "go"
      intro p4 n4
      have e4 := ex_new (o := .tup [.int j, .int 1]) n4
      walk_at "go"
      refine ⟨D, p4, u1, u2, 62, 5, c.ts, c.f, (j, 1), rfl, h3.ex e4, h4.ex e4, SqT.of upd_same, okcc.t, sj, by decide, by decide, by decide, by decide, fun v5 G5 dv5 e5 => ?_⟩
      walk_at "go"
      refine ⟨D, pf, v5, 1 + 69 * i, 68, ns, zs, mulL (j, 1) c.ts, h, ti c.f (j, 1), rfl, df.ex (e4.trans e5), dv5, tk, tk5, by omega, by decide, by omega, l6, sz, sub5, fun v6 z6 h6 G6 d6 tk6 nz6 s6 c6 r6 e6 => ?_⟩
      have e46 := e4.trans (e5.trans e6)
      have hL6 := e46 _ _ hL2
      have hT6 := sqT_ex e46 hT2
      have ty6 := sqT_ex e46 ty2
      have fin : ∀ b', b' = zB (ps.take (i + 1)) → ∃ (pf : V) (b : Bool) (y4 y5' : Option V) (zs : List Qj.Tm) (h : Int × Int), [some (.ref L), some (.ref pa), some v6, some (.bl b'), some (.int (0 + (i : Int))), y5] = [some (.ref L), some (.ref pa), some pf, some (.bl b), y4, y5'] ∧ Evl.Ex H G6 ∧ Dt K D G6 pf (fD zs h) ∧ TsK (1 + 69 * (i + 1)) zs h ∧ NZ zs ∧ (∀ t ∈ zs, t.1 ∈ ns) ∧ (∀ x, cT zs x = zS x (ps.take (i + 1))) ∧ rv h = zC (ps.take (i + 1)) ∧ b = zB (ps.take (i + 1)) := fun b' eb => by
        refine ⟨v6, b', _, _, z6, h6, rfl, e.trans e46, d6, tk6.mono (by omega), nz6, s6, fun x => ?_, ?_, eb⟩
        · rw [c6, st, zS_snoc, cz x]
          show _ + rv (cfT (mulL (j, 1) c.ts) x) = _
          rw [ec5, rv_int]
          rfl
        · rw [r6, st, zC_snoc, ch, eh5, rv_int]
      rw [st, zB_snoc, ← bz] at fin
      walk_at "go"
      cases hb : b with
      | true =>
        rw [hb, Bool.true_or] at fin
        walk_at "go"
        rw [st, zB_snoc, ← bz, hb, Bool.true_or]
        exact fin _ rfl
      | false =>
        rw [hb, Bool.false_or] at fin
        rw [st, zB_snoc, ← bz, hb, Bool.false_or]
        walk_at "go"
        refine ⟨L, _, _, _, rfl, rfl, SqL.of hL6, ax, ?_⟩
        walk_at "go"
        cases hc0 : c.b with
        | true =>
          rw [hc0, Bool.true_and] at fin
          walk_at "go"
          refine ⟨pa, _, _, _, rfl, rfl, hT6, aj, ?_⟩
          walk_at "go"
          exact fin _ rfl
        | false =>
          rw [hc0, Bool.false_and] at fin
          walk_at "go"
          exact fin _ rfl
    rintro σ G2 ⟨pf, b, y4, y5, zs, h, rfl, e, df, tk, nz, sz, cz, ch, bz⟩
    rw [Int.toNat_natCast, lx, ← lps, List.take_length] at cz ch bz
    obtain ⟨pq, ys, rfl, ty2, gy⟩ := Dt.tupA df
    obtain ⟨w1, w2, rfl, g1, g2⟩ := two_at gy
    obtain ⟨pt, zz, rfl, tz, gz⟩ := g1.tupA
    obtain ⟨pc, rfl, hpc⟩ := g2.fa
    have hpc2 : SqT K G2 pc [.int h.1, .int h.2] := hpc
    have nil := frm_nil (ns := ns) tk.u (fun t ht => (tk.s t ht).p) nz sz
    have key : zs = [] → (IsPap ns cs (.tuple (js.map .int)) ↔ (h.1 < 0 ∨ h.1 = 0 ∧ b = true)) := fun z3 => by
      have zero := nil.mp z3
      rw [iff0, bz]
      unfold Pap
      rw [← ch, rv_neg tk.fs.p, rv_zero tk.fs.p]
      exact ⟨fun y => y.2, fun y => ⟨fun x hx => (cz x).symm.trans (zero x hx), y⟩⟩
    walk_at "go"
    intro p9 n9
    have e9 := ex_new (o := .tup []) n9
    have eE := e.trans e9
    have ty9 := sqT_ex e9 ty2
    have hpc9 := sqT_ex e9 hpc2
    have dz : Dt K D (upd G2 p9 (.tup [])) (.ref pt) (.tuple (zs.map tmD)) := (Dt.tup tz gz).ex e9
    walk_at "go"
    refine ⟨_, _, Dt.dp (D := D) _ (nodict_ts zs) dz, .tup (SqT.of upd_same) .nil, shaped_ts tk.n, rfl, _, rfl, ?_⟩
    rw [show PyData.eqv (.tuple (zs.map tmD)) (.tuple []) = zs.isEmpty from by cases zs <;> rfl]
    cases zs with
    | cons t r =>
      refine iteF ?_
      refine q false _ ⟨(fun z => nomatch z), fun z => ?_⟩ eE
      have z2 := iff0.mp z
      exact absurd (nil.mpr fun x hx => (cz x).trans (z2.1 x hx)) (fun y => nomatch y)
    | nil =>
      have key := key rfl
      refine iteT ?_
      walk_at "go"
      refine ite2 (fun h3 => ?_) (fun h3 => ?_)
      · exact q true _ (by rw [key]; exact ⟨fun _ => .inl (of_decide_eq_true h3), fun _ => rfl⟩) eE
      have n3 : ¬ h.1 < 0 := fun z => h3 (decide_eq_true z)
      walk_at "go"
      rw [Qj.dec_int]
      refine ite2 (fun h4 => ?_) (fun h4 => ?_)
      · have e4 : h.1 = 0 := of_decide_eq_true h4
        walk_at "go"
        refine q _ _ ?_ eE
        rw [key]
        exact ⟨fun z => .inr ⟨e4, z⟩, fun z => z.elim (fun y => absurd y n3) (·.2)⟩
      · refine q false _ ⟨(fun z => nomatch z), fun z => ?_⟩ eE
        rcases key.mp z with y | y
        · exact absurd y n3
        · exact absurd (decide_eq_true y.1) h4
  | _ => first
    | (refine iteT ?_
       walk_at "go"
       exact no rfl (.refl _))
end
end K10
set_option pp.maxSteps 600
set_option pp.deepTerms false
namespace K10
open PySem PySem.Spec PyProof.Rows L2 Qj
local macro_rules | `(tactic| walk_at "go") => `(tactic| repeat (first
  | (refine ⟨_, rfl, ?_⟩)
  | (refine ⟨_, _, rfl, rfl, ?_⟩)
  | (refine ⟨_, _, rfl, ?_⟩)
  | (refine ⟨_, _, _, _, rfl, rfl, SqL.of (by assumption), rfl, ?_⟩)
  | (refine ⟨_, _, _, _, rfl, rfl, SqL.of upd_same, rfl, ?_⟩)
  | (refine ⟨_, _, _, _, rfl, rfl, SqT.of (by assumption), rfl, ?_⟩)
  | (refine ⟨_, _, _, _, rfl, rfl, SqT.of upd_same, rfl, ?_⟩)
  | (refine ⟨_, _, _, _, rfl, rfl, (by assumption), rfl, ?_⟩)
  | (refine ⟨_, _, _, _, rfl, rfl, upd_same, rfl, ?_⟩)
  | (refine ⟨_, _, rfl, Or.inl (by assumption), ?_⟩)
  | (refine ⟨_, _, rfl, Or.inr (SqT.of (by assumption)), ?_⟩)
  | (refine ⟨_, _, rfl, Or.inr (SqT.of upd_same), ?_⟩)
  | (refine ⟨_, _, rfl, Or.inl (SqL.of (by assumption)), ?_⟩)
  | (refine ⟨_, _, rfl, Or.inr (by assumption : SqT _ _ _ _), ?_⟩)
  | (refine ⟨_, _, rfl, (by assumption : SqT _ _ _ _), rfl, ?_⟩)
  | (refine ⟨_, _, rfl, SqT.of upd_same, rfl, ?_⟩)
  | (refine ⟨_, _, rfl, SqT.of (by assumption), rfl, ?_⟩)
  | (refine ⟨_, _, rfl, Kn.int _, ?_⟩)
  | (refine ⟨_, _, rfl, (by assumption : Kn _ _ _), ?_⟩)
  | (refine iteNS rfl ?_)
  | (refine iteF ?_)
  | (refine iteT ?_)
  | (refine Or.inl ⟨_, rfl, ?_⟩)
  | (refine Or.inr ⟨_, rfl, ?_⟩)
  | (refine And.intro sz4 ?_)
  | (refine And.intro (by first | exact rfl | assumption | decide | (show (0 : Int) < _; decide) | exact wide_div (b := 63) (by assumption) (by omega) (by decide) (by decide) | exact wide_div (b := 63) (by decide) (by decide) (by decide) (by decide) | exact Or.inl ⟨by decide, by decide⟩ | exact Or.inr ⟨by decide, by decide⟩ | exact ⟨by decide, by decide, by decide⟩ | exact Or.inl ⟨by omega, by omega⟩ | exact Or.inr ⟨by omega, by omega⟩) ?_)))

section
variable {P : Program} {w : World} {K : PySem.W.Frag} {mg : Str → Option Value} {base : Heap}
theorem ok_Form___init__ (T : Txt K mg) : FnOk P w K mg base (L2.CX P w) 6 T.Form___init__.f T.Form___init__.fd ["self", "terms", "constant"] (spIniX K T.C_Form) := by
  refine T.Form___init__.F.ok sc_Form___init__ (fun vs H Q E h => ?_) (fun cdv A outer s H vs Q E hr h => ?_)
  · obtain ⟨D, r, dx, tv, cv, kk, ts, f, rfl, _⟩ := h
    rfl
  obtain ⟨D, r, dx, tv, cv, kk, ts, f, rfl, hr0, ht, hc, tk, q0⟩ := h
  obtain ⟨okT, okC, ok⟩ := tk.terms
  have shc : shD (frD f) = true := rfl
  have nd := sc_Form___init__.nd
  refine ⟨_, (pss_cons (ps_if (PW.pt (pw_or (pt_not (pt_val (pe_call (ok__are_terms T) (hr.mono (by decide)) (by rfl) T._are_terms.g T._are_terms.F.kp T._are_terms.b .nil pass0 (pa_cons (pv 1) pa_nil)))) (pw_or1 (pt_not (pt_val (pe_call (ok_is_fraction T) (hr.mono (by decide)) (by rfl) T.is_fraction.g T.is_fraction.F.kp T.is_fraction.b .nil pass0 (pa_cons (pv 2) pa_nil)))))))
        (pss_one (ps_raise rfl (takes_of rfl rfl rfl rfl) (pmk_own0 PySem.F.excBase_ValueError T.x_BadForm T.BadForm.g T.BadForm.e.kp (raises_own T.s_BadForm T.BadForm.e.ty) (by rfl))))
        pss_nil)
      (pss_cons (ps_fld (pv 0) (pe_tupleX (by rfl) T.m_tuple (pe_callB (cr_sortN K rfl) (by rfl) T.m_sorted (by decide +kernel) (pa_cons (pe_lc (own := [("term", 3)]) (g := gName 3) rfl nd (pi_tup (pv 1)) (blkOk_by (N := ["self", "terms", "constant", "term"]) (sc := defScope s_Form___init__) (by decide +kernel)) (fun _ _ _ _ _ => pg_name (i := 3) nd rfl (Or.inl rfl)) (fun _ _ _ _ _ => pts_one (pt_cmpR op_ne (pe_ix (ix_tupK K rfl) (pe_ix (ix_tupK K rfl) (pv 3) pe_int (fun _ _ => rfl)) pe_int (fun _ _ => rfl)) pe_int (nomark _))) (fun _ _ _ _ _ => (pv 3))) pa_nil))) rfl)
      (pss_one (ps_fld (pv 0) (pv 2) rfl)))), ?_⟩
  walk_at "go"
  refine ⟨D, _, _, rfl, ht, ok, fun H1 e1 => ⟨_, rfl, ?_⟩⟩
  refine ite2 (fun h1 => ?_) (fun h1 => ?_)
  · walk_at "go"
    rw [okT] at h1
    cases h1
  walk_at "go"
  refine ⟨D, _, _, rfl, hc.ex e1, shc, fun H2 e2 => ⟨_, rfl, ?_⟩⟩
  have e12 := e1.trans e2
  refine ite2 (fun h2 => ?_) (fun h2 => ?_)
  · walk_at "go"
    rw [okC] at h2
    cases h2
  obtain ⟨ds, eds, okt, ndp⟩ := terms_of okT
  have hds : ts.map tmD = ds := by injection eds
  rw [eds] at ok ht
  have few := ok.few ds rfl
  obtain ⟨pa, xs, rfl, tx, gx⟩ := ht.tupA
  have lx := gx.len
  have tx2 := sqT_ex e12 tx
  walk_at "go"
  refine ⟨⟨_, tx2⟩, fun C nC => lc_it (walk_tup (xs := xs)) (fun i G => Evl.Ex H2 G ∧ G C = some (.lst ((((xs.zip ds).take i).filter fun z => decide (topD z.2 ≠ 0)).map (·.1)))) ⟨ex_new nC, upd_same⟩ (fun i G _ z => sqT_ex z.1 tx2) ?_ ?_⟩
  · rintro i v G G' hi ⟨eG, hC⟩ ⟨rfl, hv⟩
    refine ⟨rfl, ?_⟩
    obtain ⟨d, hd, dv⟩ := gx.at hv
    have hz := zip_at hv hd
    obtain ⟨nm, t, b, rfl, _⟩ := term_shape (okt d (List.mem_iff_getElem?.mpr ⟨i, hd⟩))
    have dv2 := dv.ex (e12.trans eG)
    obtain ⟨pv_, ys, rfl, ty, gy⟩ := dv2.tupA
    obtain ⟨v1, v2, rfl, g1, g2⟩ := two_at gy
    obtain ⟨pf, ws, rfl, tf, gf⟩ := g2.tupA
    obtain ⟨w1, w2, rfl, f1, f2⟩ := two_at gf
    cases f1
    have lf := List.length_filter_le (fun z : V × PyData => decide (topD z.2 ≠ 0)) ((xs.zip ds).take i)
    have lt : ((xs.zip ds).take i).length ≤ i := List.length_take_le ..
    walk_at "go"
    have lz : (xs.zip ds).length = xs.length := by rw [List.length_zip]; omega
    refine ite2 (fun h3 => ?_) (fun h3 => ?_)
    · have nz : t ≠ 0 := fun z => by
        subst z
        exact absurd h3 (by decide)
      walk_at "go"
      refine ⟨_, hC, by rw [List.length_map, sizeLine_eq]; omega, ex_upd eG nC, ?_⟩
      rw [upd_same, Qj.take_next hz, List.filter_append, List.filter_cons_of_pos (p := fun z : V × PyData => decide (topD z.2 ≠ 0)) (by exact decide_eq_true nz), List.map_append]
      rfl
    · have z0 : t = 0 := Classical.byContradiction fun z => h3 (by simp [z])
      refine ⟨eG, ?_⟩
      rw [Qj.take_next hz, List.filter_append, List.filter_cons_of_neg (p := fun z : V × PyData => decide (topD z.2 ≠ 0)) (by rw [show topD _ = t from rfl, z0]; decide), List.filter_nil, List.append_nil]
      exact hC
  rintro G ⟨eG, hC⟩
  have lz : (xs.zip ds).length = xs.length := by rw [List.length_zip]; omega
  rw [← lz, List.take_length] at hC
  have mem : ∀ z ∈ (xs.zip ds).filter (fun z => decide (topD z.2 ≠ 0)), Dt K D G z.1 z.2 ∧ dTerm z.2 = true := fun z hz => by
    have h := (List.mem_filter.mp hz).1
    refine ⟨((dtA_zip gx z h).ex e12).ex eG, okt _ ?_⟩
    exact (List.of_mem_zip h).2
  walk_at "go"
  refine ⟨C, _, rfl, hC, fun z hz => ?_, ?_, fun ws p wp wr np => ?_⟩
  · obtain ⟨dz, tz⟩ := mem z hz
    obtain ⟨z1, z2⟩ := z
    obtain ⟨nm, t, b, rfl, _⟩ := term_shape tz
    obtain ⟨pz, ys, e, ty, gy⟩ := Dt.tupA dz
    obtain ⟨v1, v2, rfl, g1, g2⟩ := two_at gy
    cases g1
    exact ⟨pz, v2, e, ty⟩
  · have z := nodup_kept (p := fun d => decide (topD d ≠ 0)) ndp
    rw [← zip_kept lx, List.map_map] at z
    exact z
  have e5 := ex_new (o := .lst (ws.map (·.1))) np
  walk_at "go"
  refine ⟨p, _, rfl, SqL.of upd_same, fun pt o npt od => ?_⟩
  have e6 := ex_new (o := .frz o (.tup (ws.map (·.1)))) npt
  have eA := e12.trans (eG.trans (e5.trans e6))
  have r2 := eA _ _ hr0
  have dw : DtA K D (upd (upd G p (.lst (ws.map (·.1)))) pt (.frz o (.tup (ws.map (·.1))))) (ws.map (·.1)) (ws.map (·.2)) := dtA_of fun z hz => ((mem z (wp.mem_iff.mp hz)).1.ex e5).ex e6
  walk_at "go"
  refine ⟨r, T.C_Form, dx, [], rfl, r2, T.cl_Form, T.nf_Form__terms, by decide, ?_⟩
  refine ⟨_, rfl, _, rfl, r, _, dx, _, rfl, upd_same, T.cl_Form, T.nf_Form__constant, Nat.lt_of_le_of_lt (Nat.le_refl 1) (by decide), ?_⟩
  have npr : pt ≠ r := fun z => by
    subst z
    rw [(e12.trans (eG.trans e5)) _ _ hr0] at npt
    cases npt
  have pk : (ws.map (·.2)).Perm (kept (ts.map tmD)) := by
    have z := wp.map (fun z : V × PyData => z.2)
    rw [zip_kept (p := fun d => decide (topD d ≠ 0)) lx] at z
    rw [hds]
    exact z
  obtain ⟨us, eu, pu⟩ := kept_ts pk
  have ru : ((ws.map (·.2)).map nmD).Pairwise leS := by
    rw [List.map_map]
    exact wr
  rw [eu] at dw
  rw [eu, List.map_map] at ru
  refine q0 us _ pu ru (fun a o na ha => ?_) ⟨dx, pt, _, _, by rw [upd_same]; rfl, ⟨o, ?_, od⟩, DtA.kp (.but (fun a o2 na ha => ?_) r2) _ dw, Dt.kp (.but (fun a o2 na ha => ?_) r2) _ (hc.ex eA)⟩
  · rw [upd_ne na, upd_ne na]
    exact eA _ _ ha
  · rw [upd_ne npr, upd_ne npr]
    exact upd_same
  · rw [upd_ne na, upd_ne na]
    exact ha
  · rw [upd_ne na, upd_ne na]
    exact ha
theorem ok_Form_terms (T : Txt K mg) : FnOk P w K mg base CX0 1 T.Form_terms.f T.Form_terms.fd ["self"] (spGet T.C_Form "_terms") := by
  refine T.Form_terms.F.ok sc_Form_terms (fun vs H Q E h => ?_) (fun cdv A outer s H vs Q E hr h => ?_)
  · obtain ⟨a, dx, fs, v, rfl, _⟩ := h
    rfl
  obtain ⟨a, dx, fs, v, rfl, ha, l, q⟩ := h
  have nd := sc_Form_terms.nd
  refine ⟨_, (pss_one (ps_ret (pe_fld (pv 0) rfl))), ?_⟩
  exact ⟨_, rfl, a, _, dx, fs, v, rfl, ha, T.cl_Form, T.nf_Form__terms, l, q⟩
theorem ok_Form_constant (T : Txt K mg) : FnOk P w K mg base CX0 1 T.Form_constant.f T.Form_constant.fd ["self"] (spGet T.C_Form "_constant") := by
  refine T.Form_constant.F.ok sc_Form_constant (fun vs H Q E h => ?_) (fun cdv A outer s H vs Q E hr h => ?_)
  · obtain ⟨a, dx, fs, v, rfl, _⟩ := h
    rfl
  obtain ⟨a, dx, fs, v, rfl, ha, l, q⟩ := h
  have nd := sc_Form_constant.nd
  refine ⟨_, (pss_one (ps_ret (pe_fld (pv 0) rfl))), ?_⟩
  exact ⟨_, rfl, a, _, dx, fs, v, rfl, ha, T.cl_Form, T.nf_Form__constant, l, q⟩
theorem ok_Form___mul__ (T : Txt K mg) : FnOk P w K mg base CX0 8 T.Form___mul__.f T.Form___mul__.fd ["self", "other"] (spMulX K T.C_Form) := by
  refine T.Form___mul__.F.ok sc_Form___mul__ (fun vs H Q E h => ?_) (fun cdv A outer s H vs Q E hr h => ?_)
  · obtain ⟨D, r1, p, kk, j, us, f, sf, rfl, _⟩ := h
    rfl
  obtain ⟨D, r1, p, kk, j, us, f, sf, rfl, fx, hp, tk, ss, ls, k0, k1, j1, q⟩ := h
  have nd := sc_Form___mul__.nd
  obtain ⟨dx, pt, cv, xs, hr0, fz, gx, dc⟩ := fx.ob
  obtain ⟨pc, rfl, hc⟩ := dc.fa
  have lx := gx.len
  rw [List.length_map] at lx
  have okS : dFrac (frD sf) = true := by
    show (decide (1 ≤ sf.2) && decide (((Nat.gcd sf.1.natAbs sf.2.natAbs : Nat) : Int) = 1)) = true
    have := ls.p
    rw [decide_eq_true (by omega), decide_eq_true (by rw [ls.g]; rfl)]
    rfl
  refine ⟨_, (pss_cons (ps_if (pt_not (pt_val (pe_call (ok_is_fraction T) (hr.mono (by decide)) (by rfl) T.is_fraction.g T.is_fraction.F.kp T.is_fraction.b .nil pass0 (pa_cons (pv 1) pa_nil))))
        (pss_one (ps_ret pe_never))
        pss_nil)
      (pss_cons (ps_set (i := 2) nd rfl (.inl rfl) (pe_callTy call_tuple_of (by rfl) T.m_tuple boot_tuple (pa_cons (pe_lc (own := [("name", 3), ("factor", 4)]) (tt := tYes) rfl nd (pi_tup (pe_fld (pv 0) rfl)) (blkOk_by (N := ["self", "other", "terms", "name", "factor"]) (sc := defScope s_Form___mul__) (by decide +kernel)) (fun _ _ _ _ _ => pg_tupK (n := 2) K rfl rfl (pgs_cons (pg_name (i := 3) nd rfl (Or.inl rfl)) (pgs_cons (pg_name (i := 4) nd rfl (Or.inl rfl)) pgs_nil))) (fun _ _ _ _ _ => pts_nil) (fun _ _ _ _ _ => (pe_tup (pa_cons (pv 3) (pa_cons (pe_call (ok_times T) (hr.mono (by decide)) (by rfl) T.times.g T.times.F.kp T.times.b .nil pass0 (pa_cons (pv 4) (pa_cons (pv 1) pa_nil))) pa_nil))))) pa_nil)))
      (pss_one (ps_ret (pe_make (E := E0) T.mk_Form (ok_Form___init__ T) (hr.mono (by decide)) (by rfl) T.g_Form T.Form___init__.b3 .nil passX0 (pa_cons (pv 2) (pa_cons (pe_call (ok_times T) (hr.mono (by decide)) (by rfl) T.times.g T.times.F.kp T.times.b .nil pass0 (pa_cons (pe_fld (pv 0) rfl) (pa_cons (pv 1) pa_nil))) pa_nil))))))), ?_⟩
  walk_at "go"
  refine ⟨D, .ref p, frD sf, rfl, hp.d, rfl, fun H1 e1 => ⟨_, rfl, ?_⟩⟩
  rw [okS]
  walk_at "go"
  refine ⟨r1, T.C_Form, dx, _, _, rfl, e1 _ _ hr0, T.cl_Form, T.nf_Form__terms, rfl, ?_⟩
  have tx := (fz.ex e1).sq (K := K)
  refine ⟨pt, rfl, ⟨xs, tx⟩, fun C nC => ?_⟩
  refine lc_it (walk_tup (xs := xs)) (fun i G => Evl.Ex H1 G ∧ ∃ zs, G C = some (.lst zs) ∧ zs.length = i ∧ DtA K D G zs ((mulL sf (us.take i)).map tmD)) ⟨ex_new nC, [], upd_same, rfl, .nil⟩ (fun i G _ g => sqT_ex g.1 tx) ?_ ?_
  · rintro i v G G' hi ⟨eG, zs, hC, lz, gz⟩ ⟨rfl, hv⟩
    obtain ⟨d, hd, dv⟩ := gx.at hv
    rw [List.getElem?_map] at hd
    obtain ⟨⟨nm, g⟩, ht, rfl⟩ := Option.map_eq_some_iff.mp hd
    have sg := tk.s _ (List.mem_iff_getElem?.mpr ⟨i, ht⟩)
    have e2 := e1.trans eG
    obtain ⟨pq, ys, rfl, ty, gy⟩ := (dv.ex e2).tupA
    obtain ⟨v1, v2, rfl, g1, g2⟩ := two_at gy
    cases g1
    obtain ⟨pg, rfl, hg⟩ := g2.fa
    refine ⟨pq, _, rfl, ty, rfl, ?_⟩
    walk_at "go"
    have km : max kk j ≤ 2000 := Nat.max_le.mpr ⟨k1, j1⟩
    refine ⟨pg, p, g, sf, max kk j, rfl, hg, sqT_ex e2 hp, sg.mono (Nat.le_max_left ..), ss.mono (Nat.le_max_right ..), Nat.lt_of_lt_of_le k0 (Nat.le_max_left ..), km, fun p1 G1 np1 e3 hp1 => ?_⟩
    walk_at "go"
    intro p2 np2
    have e4 := ex_new (o := .tup [.str nm, .ref p1]) np2
    walk_at "go"
    have l6 := tk.l
    refine ⟨_, (e3.trans e4) _ _ hC, by rw [lz, sizeLine_eq]; omega, ex_upd (eG.trans (e3.trans e4)) nC, _, upd_same, by rw [List.length_append, lz]; rfl, ?_⟩
    have bt5 : Bt C (upd G1 p2 (.tup [.str nm, .ref p1])) (upd (upd G1 p2 (.tup [.str nm, .ref p1])) C (.lst (zs ++ [.ref p2]))) := fun b u n h => by rw [upd_ne n]; exact h
    have hC5 := (e3.trans e4) _ _ hC
    have et : us.take (i + 1) = us.take i ++ [(nm, g)] := Qj.take_next ht
    rw [et]
    unfold mulL
    rw [List.map_append, List.map_append]
    refine DtA.app ?_ (.cons (bt5.dt hC5 rfl (.tup (SqT.of upd_same) (.cons (.str _) (.cons ((Dt.fr hp1).ex e4) .nil)))) .nil)
    exact DtA.only (fun _ _ h => bt5.sqT hC5 h) _ (noLA_of fun d hd => by
      obtain ⟨y, _, rfl⟩ := List.mem_map.mp hd
      rfl) (gz.ex (e3.trans e4))
  rintro G ⟨eG, zs, hC, lz, gz⟩
  rw [lx, List.take_length] at gz
  walk_at "go"
  refine ⟨C, _, rfl, .inl ⟨SqL.of hC, fun pl0 npl => ?_⟩⟩
  have e5 := ex_new (o := .tup zs) npl
  have e6 := e1.trans (eG.trans e5)
  walk_at "go"
  refine ⟨r1, T.C_Form, dx, _, _, rfl, e6 _ _ hr0, T.cl_Form, T.nf_Form__constant, rfl, ?_⟩
  walk_at "go"
  have km : max kk j ≤ 2000 := Nat.max_le.mpr ⟨k1, j1⟩
  refine ⟨pc, p, f, sf, max kk j, rfl, sqT_ex e6 hc, sqT_ex e6 hp, tk.fs.mono (Nat.le_max_left ..), ss.mono (Nat.le_max_right ..), Nat.lt_of_lt_of_le k0 (Nat.le_max_left ..), km, fun p3 G3 np3 e7 hp3 => ?_⟩
  walk_at "go"
  intro r dx2 nr ndx nrd
  have e8 := ex_new (o := .own r) ndx
  have e9 := ex_new (o := .ins T.C_Form dx2 []) (show (upd G3 dx2 (.own r)) r = none by rw [upd_ne (Ne.symm nrd)]; exact nr)
  have e89 := e8.trans e9
  obtain ⟨m1, m2, m3⟩ := mul_ok tk ss
  have gz5 : DtA K D (upd G pl0 (.tup zs)) zs ((mulL sf us).map tmD) := gz.ex e5
  refine ⟨D, r, dx2, .ref pl0, .ref p3, kk + j + 1, mulL sf us, ti f sf, rfl, upd_same, (Dt.tup (SqT.of upd_same) gz5).ex (e7.trans e89), (Dt.fr hp3).ex e89, m1, fun ws H' pw rw kp2 fx2 => ⟨rfl, ?_⟩⟩
  have ex : Evl.Ex G3 H' := fun a o ha => kp2 a o (fun z => by subst z; rw [nr] at ha; cases ha) (e89 _ _ ha)
  refine q r ws _ H' fx2 (Frm.of m1 pw rw) m3 (fun x => ?_) (fun t ht => ?_) (e6.trans (e7.trans ex))
  · rw [rv_kept m1.u (fun t ht => (m1.s t ht).p) pw x, m2]
  · obtain ⟨u, hu, e⟩ := List.mem_map.mp (List.mem_filter.mp (pw.mem_iff.mp ht)).1
    exact ⟨u, hu, by rw [← e]⟩
theorem ok_Form___add__ (T : Txt K mg) : FnOk P w K mg base CX0 8 T.Form___add__.f T.Form___add__.fd ["self", "other"] (spAddY K T.C_Form) := by
  refine T.Form___add__.F.ok sc_Form___add__ (fun vs H Q E h => ?_) (fun cdv A outer s H vs Q E hr h => ?_)
  · obtain ⟨D, r1, r2, jj, kk, ns, us, ws, f, g, rfl, _⟩ := h
    rfl
  obtain ⟨D, r1, r2, jj, kk, ns, us, ws, f, g, rfl, fx, gx0, tu, tw, k0, k1, l6, su, sw, q⟩ := h
  have nd := sc_Form___add__.nd
  obtain ⟨dx, pt, cv, xs, hr0, fz, gx, dc⟩ := fx.ob
  obtain ⟨dx2, pt2, cv2, ys, hr2, fz2, gy, dc2⟩ := gx0.ob
  obtain ⟨pc, rfl, hc⟩ := dc.fa
  obtain ⟨pc2, rfl, hc2⟩ := dc2.fa
  have ly := gy.len
  rw [List.length_map] at ly
  obtain ⟨ps, kvs, rfl, pp, kv0⟩ := terms_pairs gx
  refine ⟨_, (pss_cons (ps_if (pt_not (pt_val (pe_callB call_isi (by rfl) T.m_isinstance (by decide +kernel) (pa_cons (pv 1) (pa_cons (pe_glob (v := .ref T.C_Form) (by rfl) T.g_Form rfl) pa_nil)))))
        (pss_one (ps_ret pe_never))
        pss_nil)
      (pss_cons (ps_set (i := 2) nd rfl (.inl rfl) (pe_callTy (call_dictX rfl) (by rfl) T.m_dict boot_dict (pa_cons (pe_fld (pv 0) rfl) pa_nil)))
      (pss_cons (ps_for PassesOwn.never rfl (pi_tup (pe_fld (pv 1) rfl)) (pg_tup rfl (pgs_cons (pg_name (i := 3) nd rfl (.inl rfl)) (pgs_cons (pg_name (i := 4) nd rfl (.inl rfl)) pgs_nil)))
        (pss_one (ps_dput (Nat.lt_of_le_of_lt (Nat.add_le_add_left (show 1 ≤ 65 by decide) _) (units65 hr)) (pv 2) (pv 3) (pe_call (ok_plus T) (hr.mono (by decide)) (by rfl) T.plus.g T.plus.F.kp T.plus.b .nil pass0 (pa_cons (pe_dget2 (Nat.lt_of_le_of_lt (Nat.add_le_add_left (show 1 ≤ 65 by decide) _) (units65 hr)) (pv 2) (pv 3) (pe_tup (pa_cons pe_int (pa_cons pe_int pa_nil))) ⟨rfl, rfl, rfl, rfl⟩) (pa_cons (pv 4) pa_nil))) (by rfl))))
      (pss_one (ps_ret (pe_make (E := E0) T.mk_Form (ok_Form___init__ T) (hr.mono (by decide)) (by rfl) T.g_Form T.Form___init__.b3 .nil passX0 (pa_cons (pe_tupItems rfl (by rfl) T.m_tuple (pv 2)) (pa_cons (pe_call (ok_plus T) (hr.mono (by decide)) (by rfl) T.plus.g T.plus.F.kp T.plus.b .nil pass0 (pa_cons (pe_fld (pv 0) rfl) (pa_cons (pe_fld (pv 1) rfl) pa_nil))) pa_nil)))))))), ?_⟩
  walk_at "go"
  refine ⟨_, _, _, _, _, rfl, ClsV.own _, T.own_Form.ty T.cl_Form hr2, T.own_Form.self.1, ?_⟩
  walk_at "go"
  refine ⟨r1, T.C_Form, dx, _, _, rfl, hr0, T.cl_Form, T.nf_Form__terms, rfl, ?_⟩
  refine ⟨pt, ps, kvs, rfl, fz, pp, fun d ndd => ?_⟩
  have mk : mergeK [] kvs = kvs := merge_nodup (by rw [List.nil_append]; exact kv0.keys tu.u)
  rw [mk]
  have e1 := ex_new (o := .dK kvs) ndd
  walk_at "go"
  refine ⟨r2, T.C_Form, dx2, _, _, rfl, e1 _ _ hr2, T.cl_Form, T.nf_Form__terms, rfl, ?_⟩
  have ty := (fz2.ex e1).sq (K := K)
  have keepD : ∀ {G : Hp} {a : Addr} {xs : List V} {o : HO} {kk : List (Key × V)}, G d = some (.dK kk) → SqT K G a xs → SqT K (upd G d o) a xs := fun hd h => sqT_dk hd h
  have z1 : Sm (jj + kk + 1) ((0, 1) : Int × Int) := ⟨Nat.pow_pos (by decide), Nat.one_lt_two_pow (by omega), (by decide : (0 : Int) < 1)⟩
  have am := fun i => add_ok2 tu (tw.take i) l6 su (fun t ht => sw t (List.mem_of_mem_take ht)) k0
  refine ⟨pt2, rfl, ⟨ys, ty⟩, for_tup (xs := ys) (fun i σ G => ∃ (y3 y4 : Option V) (kv : List (Key × V)), σ = [some (.ref r1), some (.ref r2), some (.ref d), y3, y4] ∧ Evl.Ex H G ∧ G d = some (.dK kv) ∧ KvT K G kv (addL us (ws.take i))) ?_ ?_ ?_ ?_⟩
  · exact ⟨_, _, kvs, rfl, e1, upd_same, kv0.keep fun a xs h => sqT_ex e1 h⟩
  · rintro i σ G hi ⟨y3, y4, kv, rfl, eG, hd, kt⟩
    exact (fz2.ex eG).sq
  · rintro i x σ G hx ⟨y3, y4, kv, rfl, eG, hd, kt⟩
    obtain ⟨dd, hdd, dv⟩ := gy.at hx
    rw [List.getElem?_map] at hdd
    obtain ⟨⟨nm, gg⟩, ht, rfl⟩ := Option.map_eq_some_iff.mp hdd
    have sg := tw.s _ (List.mem_iff_getElem?.mpr ⟨i, ht⟩)
    obtain ⟨pq, zs, rfl, tz, gz⟩ := (dv.ex eG).tupA
    obtain ⟨v1, v2, rfl, g1, g2⟩ := two_at gz
    cases g1
    obtain ⟨pg, rfl, hg⟩ := g2.fa
    refine ⟨pq, _, rfl, tz, rfl, ?_⟩
    walk_at "go"
    refine ⟨.inl ⟨kv, .inl hd⟩, ?_⟩
    walk_at "go"
    intro p0 np0
    have e2 := ex_new (o := .tup [.int 0, .int 1]) np0
    have sc := cfT_all (P := Sm (jj + kk + 1)) (am i).1.s z1 nm
    have dg : DGet (upd G p0 (.tup [.int 0, .int 1])) d (V.str nm) (valV kv (.inr nm)) := DGet.k (k := .inr nm) (e2 _ _ hd)
    obtain ⟨pv_, epv, hpv⟩ : ∃ pv_, (valV kv (.inr nm)).getD (.ref p0) = .ref pv_ ∧ FrA K (upd G p0 (.tup [.int 0, .int 1])) pv_ (cfT (addL us (ws.take i)) nm) := by
      rcases kt.look nm with ⟨h1, h2⟩ | ⟨q, h1, h2⟩
      · rw [h1, h2]
        exact ⟨p0, rfl, SqT.of upd_same⟩
      · rw [h1]
        exact ⟨q, rfl, sqT_ex e2 h2⟩
    refine ⟨_, dg, ?_⟩
    rw [epv]
    walk_at "go"
    refine ⟨pv_, pg, cfT (addL us (ws.take i)) nm, gg, jj + kk + 1, rfl, hpv, sqT_ex e2 hg, sc, sg.mono (by omega), by omega, by omega, fun p3 G3 np3 e3 hp3 => ?_⟩
    walk_at "go"
    have hd3 := (e2.trans e3) _ _ hd
    have lk := kt.len
    have l7 := (am i).1.l
    refine ⟨d, _, rfl, DPut.k (k := .inr nm) hd3 (by rw [sizeLine_eq]; omega), ?_⟩
    have kt3 := kt.keep fun a xs h => sqT_ex (e2.trans e3) h
    refine ⟨_, _, _, rfl, ex_upd (eG.trans (e2.trans e3)) ndd, upd_same, ?_⟩
    rw [addL_next ht]
    exact kt3.put (fun a xs h => sqT_dk hd3 h) (sqT_dk hd3 (SqT.of hp3))
  · rintro σ G ⟨y3, y4, kv, rfl, eG, hd, kt⟩
    rw [ly, List.take_length] at kt
    have a6 := am ws.length
    rw [List.take_length] at a6
    obtain ⟨a1, a2, a3⟩ := a6
    walk_at "go"
    refine ⟨d, kv, rfl, hd, fun G2 q2 o ts e2 nq2 od pt2 => ?_⟩
    have gz := items_terms (D := D) (kt.keep fun a xs h => sqT_ex e2 h) pt2
    have e3 := ex_new (o := .frz o (.tup (ts.map V.ref))) nq2
    have eA := eG.trans (e2.trans e3)
    walk_at "go"
    refine ⟨r1, T.C_Form, dx, _, _, rfl, eA _ _ hr0, T.cl_Form, T.nf_Form__constant, rfl, ?_⟩
    refine ⟨_, rfl, r2, T.C_Form, dx2, _, _, rfl, eA _ _ hr2, T.cl_Form, T.nf_Form__constant, rfl, ?_⟩
    walk_at "go"
    refine ⟨pc, pc2, f, g, jj + kk + 1, rfl, sqT_ex eA hc, sqT_ex eA hc2, tu.fs.mono (by omega), tw.fs.mono (by omega), by omega, by omega, fun p3 G3 np3 e7 hp3 => ?_⟩
    walk_at "go"
    intro r dxn nr ndx nrd
    have e8 := ex_new (o := .own r) ndx
    have e9 := ex_new (o := .ins T.C_Form dxn []) (show (upd G3 dxn (.own r)) r = none by rw [upd_ne (Ne.symm nrd)]; exact nr)
    have e89 := e8.trans e9
    have dz : Dt K D (upd G2 q2 (.frz o (.tup (ts.map V.ref)))) (.ref q2) (.tuple ((addL us ws).map tmD)) := .tup (.inl (.inr ⟨o, upd_same⟩)) (gz.ex e3)
    refine ⟨D, r, dxn, .ref q2, .ref p3, jj + kk + 1, addL us ws, pl f g, rfl, upd_same, dz.ex (e7.trans e89), (Dt.fr hp3).ex e89, a1, fun zs H' pw rw kp2 fx2 => ⟨rfl, ?_⟩⟩
    have ex : Evl.Ex G3 H' := fun a o ha => kp2 a o (fun z => by subst z; rw [nr] at ha; cases ha) (e89 _ _ ha)
    refine q r zs _ H' fx2 (Frm.of a1 pw rw) (rv_pl tu.fs.p tw.fs.p) (fun x => ?_) (fun t ht => ?_) (eA.trans (e7.trans ex))
    · rw [rv_kept a1.u (fun t ht => (a1.s t ht).p) pw x, a2]
    · exact a3 t (List.mem_filter.mp (pw.mem_iff.mp ht)).1
end
end K10
set_option pp.maxSteps 600
set_option pp.deepTerms false
namespace K10
open PySem PySem.Spec PyProof.Rows L2 Qj
local macro_rules | `(tactic| walk_at "go") => `(tactic| repeat (first
  | (refine ⟨_, rfl, ?_⟩)
  | (refine ⟨_, _, rfl, rfl, ?_⟩)
  | (refine ⟨_, _, rfl, ?_⟩)
  | (refine ⟨_, _, _, _, rfl, rfl, SqL.of (by assumption), rfl, ?_⟩)
  | (refine ⟨_, _, _, _, rfl, rfl, SqL.of upd_same, rfl, ?_⟩)
  | (refine ⟨_, _, _, _, rfl, rfl, SqT.of (by assumption), rfl, ?_⟩)
  | (refine ⟨_, _, _, _, rfl, rfl, SqT.of upd_same, rfl, ?_⟩)
  | (refine ⟨_, _, _, _, rfl, rfl, (by assumption), rfl, ?_⟩)
  | (refine ⟨_, _, _, _, rfl, rfl, upd_same, rfl, ?_⟩)
  | (refine ⟨_, _, rfl, Or.inl (by assumption), ?_⟩)
  | (refine ⟨_, _, rfl, Or.inr (SqT.of (by assumption)), ?_⟩)
  | (refine ⟨_, _, rfl, Or.inr (SqT.of upd_same), ?_⟩)
  | (refine ⟨_, _, rfl, Or.inl (SqL.of (by assumption)), ?_⟩)
  | (refine ⟨_, _, rfl, Or.inr (by assumption : SqT _ _ _ _), ?_⟩)
  | (refine ⟨_, _, rfl, (by assumption : SqT _ _ _ _), rfl, ?_⟩)
  | (refine ⟨_, _, rfl, SqT.of upd_same, rfl, ?_⟩)
  | (refine ⟨_, _, rfl, SqT.of (by assumption), rfl, ?_⟩)
  | (refine ⟨_, _, rfl, Kn.int _, ?_⟩)
  | (refine ⟨_, _, rfl, (by assumption : Kn _ _ _), ?_⟩)
  | (refine iteNS rfl ?_)
  | (refine iteF ?_)
  | (refine iteT ?_)
  | (refine Or.inl ⟨_, rfl, ?_⟩)
  | (refine Or.inr ⟨_, rfl, ?_⟩)
  | (refine And.intro sz4 ?_)
  | (refine And.intro (by first | exact rfl | assumption | decide | (show (0 : Int) < _; decide) | exact wide_div (b := 63) (by assumption) (by omega) (by decide) (by decide) | exact wide_div (b := 63) (by decide) (by decide) (by decide) (by decide) | exact Or.inl ⟨by decide, by decide⟩ | exact Or.inr ⟨by decide, by decide⟩ | exact ⟨by decide, by decide, by decide⟩ | exact Or.inl ⟨by omega, by omega⟩ | exact Or.inr ⟨by omega, by omega⟩) ?_)))

section
variable {P : Program} {w : World} {K : PySem.W.Frag} {mg : Str → Option Value} {base : Heap}
theorem ok__are_shares (T : Txt K mg) : FnOk P w K mg base CX0 2 T._are_shares.f T._are_shares.fd ["value", "many"] (spShares K) := by
  refine T._are_shares.F.ok sc__are_shares (fun vs H Q E h => ?_) (fun cdv A outer s H vs Q E hr h => ?_)
  · obtain ⟨D, v, d, n, rfl, _⟩ := h
    rfl
  obtain ⟨D, v, d, n, rfl, hd, ok, q1⟩ := h
  have q := q1 H (.refl _)
  have nd := sc__are_shares.nd
  obtain ⟨k, ty, k1, k2, k3, k4⟩ := hd.ty
  refine ⟨_, (pss_cons (ps_if (PW.pt (pw_or (pt_not (pt_val (pe_callB call_isi (by rfl) T.m_isinstance (by decide +kernel) (pa_cons (pv 0) (pa_cons (pe_bltn (v := .ty "tuple") (by rfl) T.m_tuple (by decide +kernel) rfl) pa_nil))))) (pw_or1 (pt_cmpR op_ne (pe_callB call_len_seq (by rfl) T.m_len (by decide +kernel) (pa_cons (pv 0) pa_nil)) (pv 1) (nomark _)))))
        (pss_one (ps_ret pe_bl))
        pss_nil)
      (pss_one (ps_ret (pe_callB (cr_all rfl) (by rfl) T.m_all (by decide +kernel) (pa_cons (pe_lc (own := [("share", 2)]) (g := gName 2) (tt := tYes) rfl nd (pi_tup (pv 0)) (blkOk_by (N := ["value", "many", "share"]) (sc := defScope s__are_shares) (by decide +kernel)) (fun _ _ _ _ _ => pg_name (i := 2) nd rfl (Or.inl rfl)) (fun _ _ _ _ _ => pts_nil) (fun _ _ _ _ _ => (pe_and (pe_call (ok_is_whole T) (hr.mono (by decide)) (by rfl) T.is_whole.g T.is_whole.F.kp T.is_whole.b .nil pass0 (pa_cons (pv 2) pa_nil)) (pe_one (pe_cmpR op_ge (pv 2) pe_int (nomark _)))))) pa_nil))))), ?_⟩
  walk_at "go"
  refine ⟨_, _, _, _, _, rfl, ClsV.ty _, ty, kd_tup _ _, _, rfl, ?_⟩
  rw [k1]
  cases hd with
  | @tup pa xs ds h g =>
    refine iteF ?_
    have few := ok.few ds rfl
    have sh := ok.sh
    have lx := g.len
    walk_at "go"
    have ld : decide (V.int ((xs.length : Nat) : Int) = V.int (n : Int)) = decide (ds.length = n) := by
      rw [lx]
      by_cases z : ds.length = n
      · rw [z, decide_eq_true rfl, decide_eq_true rfl]
      · rw [decide_eq_false (fun y => z (by injection y with y; omega)), decide_eq_false z]
    have q' : ∀ G, Evl.Ex H G → Q (.bl (decide (ds.length = n) && ds.all shr)) G := q1
    rw [ld]
    refine ite2 (fun h1 => ?_) (fun h1 => ?_)
    · rw [not_t h1, Bool.false_and] at q'
      walk_at "go"
      exact q' _ (.refl _)
    rw [not_f h1, Bool.true_and] at q'
    walk_at "go"
    refine ⟨⟨_, h⟩, fun C nC => lc_it (walk_tup (xs := xs)) (fun i G => Evl.Ex H G ∧ G C = some (.lst (((ds.take i).map shr).map V.bl))) ⟨ex_new nC, upd_same⟩ (fun i G _ z => sqT_ex z.1 h) ?_ ?_⟩
    · rintro i v G G' hi ⟨eG, hC⟩ ⟨rfl, hv⟩
      obtain ⟨d, hd, dv⟩ := g.at hv
      have lt : (ds.take i).length ≤ i := List.length_take_le ..
      have fin : ∀ G2, Evl.Ex G' G2 → ∃ acc, G2 C = some (.lst acc) ∧ acc.length < sizeLine ∧ Evl.Ex H (upd G2 C (.lst (acc ++ [.bl (shr d)]))) ∧ upd G2 C (.lst (acc ++ [.bl (shr d)])) C = some (.lst (((ds.take (i + 1)).map shr).map V.bl)) := fun G2 e2 => by
        refine ⟨_, e2 _ _ hC, by rw [List.length_map, List.length_map, sizeLine_eq]; omega, ex_upd (eG.trans e2) nC, ?_⟩
        rw [upd_same, Qj.take_next hd, List.map_append, List.map_append]
        rfl
      refine ⟨rfl, ?_⟩
      walk_at "go"
      refine ⟨D, v, d, rfl, dv.ex eG, sh_item (i := i) sh hd, fun G2 e2 => ?_⟩
      refine ⟨_, rfl, ?_⟩
      refine ite2 (fun h2 => ?_) (fun h2 => ?_)
      · obtain ⟨i0, rfl⟩ := whole_of h2
        cases dv
        walk_at "go"
        exact fin _ e2
      · have e0 : shr d = false := by
          cases d <;> first | rfl | exact absurd rfl h2
        rw [e0] at fin
        exact fin _ e2
    rintro G ⟨eG, hC⟩
    rw [lx, List.take_length] at hC
    walk_at "go"
    refine ⟨C, _, rfl, SqL.of hC, ?_⟩
    walk_at "go"
    rw [List.all_map]
    exact q' _ eG
  | _ => first
    | (refine iteT ?_
       walk_at "go"
       exact q)
theorem ints_valsN {D : Addr} {H : Hp} : ∀ {js : List Int} {vs : List V}, DtA K D H vs (js.map PyData.int) → vs = js.map V.int
  | [], _, h => by
    cases h
    rfl
  | j :: r, _, h => by
    cases h with
    | cons h t =>
      cases h
      rw [ints_valsN t]
      rfl
theorem ok_never_holds (T : Txt K mg) : FnOk P w K mg base CX0 12 T.never_holds.f T.never_holds.fd ["conditions", "value"] (spNever K T.C_Form) := by
  refine T.never_holds.F.ok sc_never_holds (fun vs H Q E h => ?_) (fun cdv A outer s H vs Q E hr h => ?_)
  · obtain ⟨D, p, v, d, ns, cs, rfl, _⟩ := h
    rfl
  obtain ⟨D, p, v, d, ns, cs, rfl, hp, lc, sub, l6, hd, ok, q⟩ := h
  have nd := sc_never_holds.nd
  obtain ⟨xs, tx, gx⟩ := hp
  have lx := Paired.length gx
  refine ⟨_, (pss_cons (ps_if (pt_not (pt_val (pe_call (ok__are_shares T) (hr.mono (by decide)) (by rfl) T._are_shares.g T._are_shares.F.kp T._are_shares.b .nil pass0 (pa_cons (pv 1) (pa_cons (pe_callB call_len_seq (by rfl) T.m_len (by decide +kernel) (pa_cons (pv 0) pa_nil)) pa_nil)))))
        (pss_one (ps_ret pe_bl))
        pss_nil)
      (pss_cons (ps_set (i := 2) nd rfl (.inl rfl) (pe_make0 (E := E0) T.mk_Form (ok_Form___init__ T) (hr.mono (by decide)) (by rfl) T.g_Form T.Form___init__.b1 T.Form___init__.v1 passX0))
      (pss_cons (ps_for PassesOwn.never rfl (RZ.pi_zipA (by rfl) T.m_zip (pa_cons (pv 0) (pa_cons (pv 1) pa_nil))) (pg_tup rfl (pgs_cons (pg_tup rfl (pgs_cons (pg_name (i := 3) nd rfl (.inl rfl)) (pgs_cons (pg_name (i := 4) nd rfl (.inl rfl)) pgs_nil))) (pgs_cons (pg_name (i := 5) nd rfl (.inl rfl)) pgs_nil)))
        (pss_one (ps_set (i := 2) nd rfl (.inl rfl) (pe_op (op_binOwn (op := .Add) T.own_Form.sf T.Form___add__.m (ok_Form___add__ T) (hr.mono (by decide)) T.Form___add__.b pass0) (pv 2) (pe_op (op_mulOwn T.own_Form.sf T.Form___mul__.m (ok_Form___mul__ T) (hr.mono (by decide)) T.Form___mul__.b pass0) (pv 3) (pe_tup (pa_cons (pv 5) (pa_cons pe_int pa_nil))))))))
      (pss_cons (ps_if (pt_truth (pe_prop (pv 2) T.cl_Form T.Form_terms.o (ok_Form_terms T) (hr.mono (by decide)) T.Form_terms.b .nil pass0 rfl) (by intro _; rfl))
        (pss_one (ps_ret pe_bl))
        pss_nil)
      (pss_cons (ps_set (i := 6) nd rfl (.inl rfl) (pe_ix ix_tup (pe_prop (pv 2) T.cl_Form T.Form_constant.o (ok_Form_constant T) (hr.mono (by decide)) T.Form_constant.b .nil pass0 rfl) pe_int (fun _ _ => rfl)))
      (pss_cons (ps_set (i := 7) nd rfl (.inl rfl) (pe_callB (cr_any rfl) (by rfl) T.m_any (by decide +kernel) (pa_cons (pe_lc (own := [("_", 4), ("strict", 8), ("share", 5)]) (tt := tYes) rfl nd (RZ.pi_zipA (by rfl) T.m_zip (pa_cons (pv 0) (pa_cons (pv 1) pa_nil))) (blkOk_by (N := ["conditions", "value", "whole", "form", "_", "share", "top", "strictly", "strict"]) (sc := defScope s_never_holds) (by decide +kernel)) (fun _ _ _ _ _ => pg_tupK (n := 2) K rfl rfl (pgs_cons (pg_tupK (n := 2) K rfl rfl (pgs_cons (pg_name (i := 4) nd rfl (Or.inl rfl)) (pgs_cons (pg_name (i := 8) nd rfl (Or.inl rfl)) pgs_nil))) (pgs_cons (pg_name (i := 5) nd rfl (Or.inl rfl)) pgs_nil))) (fun _ _ _ _ _ => pts_nil) (fun _ _ _ _ _ => (pe_and (pv 8) (pe_one (pe_cmpR op_gt (pv 5) pe_int (nomark _)))))) pa_nil)))
      (pss_one (ps_ret (pe_or (pe_cmpR op_lt (pv 6) pe_int (nomark _)) (pe_one (pe_and (pe_cmpR op_eq (pv 6) pe_int (nomark _)) (pe_one (pv 7))))))))))))), ?_⟩
  walk_at "go"
  refine ⟨D, v, d, xs.length, rfl, hd, ok, fun H1 e1 => ⟨_, rfl, ?_⟩⟩
  rw [lx]
  refine ite2 (fun h1 => ?_) (fun h1 => ?_)
  · exact q false _ ⟨(fun z => nomatch z), fun z => absurd z (pap_no (not_t h1))⟩ e1
  obtain ⟨js, rfl, lj, nj⟩ := shrD_of (not_f h1)
  have bj := ok.bd js rfl
  obtain ⟨pv_, vs, rfl, tv, gv⟩ := hd.tupA
  obtain rfl := ints_valsN gv
  walk_at "go"
  intro r dx nr ndx nrd
  have e2 := ex_new (o := .own r) ndx
  have e3 := ex_new (o := .ins T.C_Form dx []) (show (upd H1 dx (.own r)) r = none by rw [upd_ne (Ne.symm nrd)]; exact nr)
  have tk0 : TsK 1 [] ((0, 1) : Int × Int) := ⟨(fun t h => nomatch h), (fun t h => nomatch h), (fun t h => nomatch h), List.nodup_nil, by decide, ⟨by decide, by decide, by decide⟩, by decide⟩
  refine ⟨D, r, dx, .ref T.p_Form___init__0, .ref T.p_Form___init__1, 1, [], (0, 1), rfl, upd_same, readK_dt T.k_Form___init__0, readK_dt T.k_Form___init__1, tk0, fun us H2 pa ra kp1 fx1 => ⟨rfl, ?_⟩⟩
  have ex1 : Evl.Ex H1 H2 := fun b o hb => kp1 b o (fun z => by subst z; rw [nr] at hb; cases hb) ((e2.trans e3) _ _ hb)
  have fm1 := Frm.of tk0 pa ra
  obtain rfl : us = [] := List.Perm.eq_nil pa
  have e12 := e1.trans ex1
  generalize hps : cs.zip js = ps at q
  have lps : ps.length = cs.length := by rw [← hps, List.length_zip]; omega
  walk_at "go"
  refine ⟨p, pv_, xs, _, rfl, .inr ⟨sqT_ex e12 tx, sqT_ex e12 tv, ?_⟩⟩
  refine for_it (walk_zipT (xs := xs) (ys := js.map V.int) (n := cs.length) (by rw [List.length_map]; omega)) (fun i σ G => ∃ (rw_ : Addr) (y3 y4 y5 y6 y7 y8 : Option V) (zs : List Qj.Tm) (h : Int × Int), σ = [some (.ref p), some (.ref pv_), some (.ref rw_), y3, y4, y5, y6, y7, y8] ∧ Evl.Ex H G ∧ FormX K T.C_Form D G rw_ zs h ∧ Frm (1 + 69 * i) zs h ∧ (∀ t ∈ zs, t.1 ∈ ns) ∧ (∀ x, cT zs x = zS x (ps.take i)) ∧ rv h = zC (ps.take i)) ?_ (fun i σ G hi g => ?_) ?_ ?_
  · exact ⟨r, _, _, _, _, _, _, [], (0, 1), rfl, e12, fx1, fm1, (fun t h => nomatch h), (fun x => rv_01), rv_01⟩
  · obtain ⟨rw_, y3, y4, y5, y6, y7, y8, zs, h, rfl, e, _⟩ := g
    exact ⟨sqT_ex e tx, sqT_ex e tv⟩
  · rintro i x σ G G' hi ⟨rw_, y3, y4, y5, y6, y7, y8, zs, h, rfl, e, fx, fm, sz, cz, ch⟩ ⟨Tn, a, b, rfl, nT, rfl, ha, hb⟩
    obtain ⟨c, hc, q0, rf, rfl, tq, fc, fmc⟩ := paired_at gx ha
    have hb2 : (js.map V.int)[i]? = some b := hb
    rw [List.getElem?_map] at hb2
    obtain ⟨j, hj, rfl⟩ := Option.map_eq_some_iff.mp hb2
    have eT := ex_new (o := .tup [.ref q0, .int j]) nT
    have ex := e.trans eT
    have hpi : ps[i]? = some (c, j) := by
      rw [← hps]
      exact List.getElem?_zip_eq_some.mpr ⟨hc, hj⟩
    have bj5 := bj j (List.mem_iff_getElem?.mpr ⟨i, hj⟩)
    have sc := sub c (List.mem_iff_getElem?.mpr ⟨i, hc⟩)
    obtain ⟨dxc, ptc, cvc, xsc, hrc, _⟩ := (fc.ex ex).ob
    obtain ⟨dxw, ptw, cvw, xsw, hrw, _⟩ := (fx.ex eT).ob
    refine ⟨Tn, _, rfl, SqT.of upd_same, rfl, ?_⟩
    refine ⟨_, _, rfl, ?_⟩
    refine ⟨q0, _, rfl, sqT_ex ex tq, rfl, ?_⟩
    walk_at "go"
    intro p3 np3
    have e4 := ex_new (o := .tup [.int j, .int 1]) np3
    have sj : Sm 5 ((j, 1) : Int × Int) := ⟨bj5, (show (1 : Int).natAbs < 2 ^ 5 by decide), (by decide : (0 : Int) < 1)⟩
    have lj1 : Lowt ((j, 1) : Int × Int) := ⟨(by decide : (0 : Int) < 1), Nat.gcd_one_right _⟩
    walk_at "go"
    refine ⟨rf, p3, dxc, _, _, rfl, rfl, e4 _ _ hrc, SqT.of upd_same, D, rf, p3, 62, 5, c.ts, c.f, (j, 1), rfl, fc.ex (ex.trans e4), SqT.of upd_same, fmc.t, sj, lj1, by decide, by decide, by decide, fun r3 z3 h3 G3 fx3 fm3 eh3 ec3 s3 e5 => ?_⟩
    obtain ⟨dx3, pt3, cv3, xs3, hr3, _⟩ := fx3.ob
    have s3' : ∀ t ∈ z3, t.1 ∈ ns := fun t ht => by
      obtain ⟨u, hu, eu⟩ := s3 t ht
      exact eu ▸ sc u hu
    have e45 := e4.trans e5
    refine ⟨rw_, r3, dxw, dx3, _, _, rfl, rfl, e45 _ _ hrw, hr3, D, rw_, r3, 1 + 69 * i, 68, ns, zs, z3, h, h3, rfl, (fx.ex eT).ex e45, fx3, fm.t, fm3.t, by omega, by omega, l6, sz, s3', fun r4 z4 h4 G4 fx4 fm4 eh4 ec4 s4 e6 => ?_⟩
    have st : ps.take (i + 1) = ps.take i ++ [(c, j)] := Qj.take_next hpi
    refine ⟨r4, _, _, _, _, _, _, z4, h4, rfl, ex.trans (e45.trans e6), fx4, fm4.mono (by omega), s4, fun x => ?_, ?_⟩
    · rw [st, zS_snoc, ← cz x]
      show rv (cfT z4 x) = _
      rw [ec4, ec3, rv_int]
      rfl
    · rw [st, zC_snoc, ← ch, eh4, eh3, rv_int]
  rintro σ G ⟨rw_, y3, y4, y5, y6, y7, y8, zs, h, rfl, e, fx, fm, sz, cz, ch⟩
  rw [← lps, List.take_length] at cz ch
  obtain ⟨dxw, ptw, cvw, xsw, hrw, ⟨oz, hz, _⟩, gz, dc⟩ := fx.ob
  obtain ⟨pc, rfl, hpc⟩ := dc.fa
  have lz := gz.len
  rw [List.length_map] at lz
  have nil := frm_nil (ns := ns) fm.t.u (fun t ht => (fm.low t ht).p) (fun t ht => fm.z t ht) sz
  have hpc2 : SqT K G pc [.int h.1, .int h.2] := hpc
  have iff0 := pap_of (ns := ns) (cs := cs) lj nj
  rw [hps] at iff0
  walk_at "go"
  refine ⟨rw_, dxw, _, rfl, hrw, rw_, dxw, _, _, rfl, hrw, rfl, ?_⟩
  refine ⟨_, .inr (.inl ⟨xsw, .inl (.inr ⟨oz, hz⟩), rfl⟩), ?_⟩
  refine ite2 (fun h2 => ?_) (fun h2 => ?_)
  · refine q false _ ⟨(fun z => nomatch z), fun z => ?_⟩ e
    have z2 := iff0.mp z
    have z3 := nil.mpr fun x hx => (cz x).trans (z2.1 x hx)
    rw [z3] at lz
    rw [List.eq_nil_of_length_eq_zero lz] at h2
    cases h2
  have z3 : zs = [] := by
    cases xsw with
    | nil =>
      rw [List.length_nil] at lz
      exact List.eq_nil_of_length_eq_zero lz.symm
    | cons => exact absurd rfl h2
  have zero := nil.mp z3
  have key : IsPap ns cs (.tuple (js.map .int)) ↔ (h.1 < 0 ∨ h.1 = 0 ∧ zB ps = true) := by
    rw [iff0]
    unfold Pap
    rw [← ch, rv_neg fm.t.fs.p, rv_zero fm.t.fs.p]
    exact ⟨fun y => y.2, fun y => ⟨fun x hx => (cz x).symm.trans (zero x hx), y⟩⟩
  walk_at "go"
  refine ⟨rw_, dxw, _, rfl, hrw, rw_, dxw, _, _, rfl, hrw, rfl, ?_⟩
  walk_at "go"
  refine ⟨p, pv_, xs, _, rfl, .inr ⟨sqT_ex e tx, sqT_ex e tv, fun C nC => ?_⟩⟩
  refine lc_it (walk_zipT (xs := xs) (ys := js.map V.int) (n := cs.length) (by rw [List.length_map]; omega)) (fun i G2 => Evl.Ex G G2 ∧ G2 C = some (.lst ((((ps.take i).map fun p => p.1.b && decide (0 < p.2))).map V.bl))) ⟨ex_new nC, upd_same⟩ (fun i G2 _ g => ⟨sqT_ex (e.trans g.1) tx, sqT_ex (e.trans g.1) tv⟩) ?_ ?_
  · rintro i x G2 G3 hi ⟨e2, hC⟩ ⟨Tn, a, b, rfl, nT, rfl, ha, hb⟩
    obtain ⟨c, hc, q0, rf, rfl, tq, fc, fmc⟩ := paired_at gx ha
    have hb2 : (js.map V.int)[i]? = some b := hb
    rw [List.getElem?_map] at hb2
    obtain ⟨j, hj, rfl⟩ := Option.map_eq_some_iff.mp hb2
    have eT := ex_new (o := .tup [.ref q0, .int j]) nT
    have hpi : ps[i]? = some (c, j) := by
      rw [← hps]
      exact List.getElem?_zip_eq_some.mpr ⟨hc, hj⟩
    have lt : (ps.take i).length ≤ i := List.length_take_le ..
    have fin : ∀ b, b = (c.b && decide (0 < j)) → ∃ acc, (upd G2 Tn (.tup [.ref q0, .int j])) C = some (.lst acc) ∧ acc.length < sizeLine ∧ Evl.Ex G (upd (upd G2 Tn (.tup [.ref q0, .int j])) C (.lst (acc ++ [.bl b]))) ∧ upd (upd G2 Tn (.tup [.ref q0, .int j])) C (.lst (acc ++ [.bl b])) C = some (.lst ((((ps.take (i + 1)).map fun p => p.1.b && decide (0 < p.2))).map V.bl)) := fun b eb => by
      refine ⟨_, eT _ _ hC, by rw [List.length_map, List.length_map, sizeLine_eq]; omega, ex_upd (e2.trans eT) nC, ?_⟩
      rw [upd_same, Qj.take_next hpi, List.map_append, List.map_append, eb]
      rfl
    refine ⟨Tn, _, rfl, SqT.of upd_same, rfl, ?_⟩
    refine ⟨_, _, rfl, ?_⟩
    refine ⟨q0, _, rfl, sqT_ex (e.trans (e2.trans eT)) tq, rfl, ?_⟩
    walk_at "go"
    cases hb0 : c.b with
    | true =>
      rw [hb0, Bool.true_and] at fin
      walk_at "go"
      exact fin _ rfl
    | false =>
      rw [hb0, Bool.false_and] at fin
      walk_at "go"
      exact fin _ rfl
  rintro G2 ⟨e2, hC⟩
  rw [← lps, List.take_length] at hC
  walk_at "go"
  refine ⟨C, _, rfl, SqL.of hC, ?_⟩
  walk_at "go"
  have zb : (List.map (fun p => p.1.b && decide (0 < p.2)) ps).any id = zB ps := by
    rw [List.any_map]
    rfl
  rw [zb]
  have eE := e.trans e2
  refine ite2 (fun h3 => ?_) (fun h3 => ?_)
  · exact q true _ (by rw [key]; exact ⟨fun _ => .inl (of_decide_eq_true h3), fun _ => rfl⟩) eE
  have n3 : ¬ h.1 < 0 := fun z => h3 (decide_eq_true z)
  walk_at "go"
  rw [Qj.dec_int]
  refine ite2 (fun h4 => ?_) (fun h4 => ?_)
  · have e4 : h.1 = 0 := of_decide_eq_true h4
    walk_at "go"
    refine q _ _ ?_ eE
    rw [key]
    exact ⟨fun z => .inr ⟨e4, z⟩, fun z => z.elim (fun y => absurd y n3) (·.2)⟩
  · refine q false _ ⟨(fun z => nomatch z), fun z => ?_⟩ eE
    rcases key.mp z with y | y
    · exact absurd y n3
    · exact absurd (decide_eq_true y.1) h4
end
end K10
set_option pp.maxSteps 600
set_option pp.deepTerms false
namespace K10
open PySem PySem.Spec PyProof.Rows L2 Qj
local macro_rules | `(tactic| walk_at "go") => `(tactic| repeat (first
  | (refine ⟨_, rfl, ?_⟩)
  | (refine ⟨_, _, rfl, rfl, ?_⟩)
  | (refine ⟨_, _, rfl, ?_⟩)
  | (refine ⟨_, _, _, _, rfl, rfl, SqL.of (by assumption), rfl, ?_⟩)
  | (refine ⟨_, _, _, _, rfl, rfl, SqL.of upd_same, rfl, ?_⟩)
  | (refine ⟨_, _, _, _, rfl, rfl, SqT.of (by assumption), rfl, ?_⟩)
  | (refine ⟨_, _, _, _, rfl, rfl, SqT.of upd_same, rfl, ?_⟩)
  | (refine ⟨_, _, _, _, rfl, rfl, (by assumption), rfl, ?_⟩)
  | (refine ⟨_, _, _, _, rfl, rfl, upd_same, rfl, ?_⟩)
  | (refine ⟨_, _, rfl, Or.inl (by assumption), ?_⟩)
  | (refine ⟨_, _, rfl, Or.inr (SqT.of (by assumption)), ?_⟩)
  | (refine ⟨_, _, rfl, Or.inr (SqT.of upd_same), ?_⟩)
  | (refine ⟨_, _, rfl, Or.inl (SqL.of (by assumption)), ?_⟩)
  | (refine ⟨_, _, rfl, Or.inr (by assumption : SqT _ _ _ _), ?_⟩)
  | (refine ⟨_, _, rfl, (by assumption : SqT _ _ _ _), rfl, ?_⟩)
  | (refine ⟨_, _, rfl, SqT.of upd_same, rfl, ?_⟩)
  | (refine ⟨_, _, rfl, SqT.of (by assumption), rfl, ?_⟩)
  | (refine ⟨_, _, rfl, Kn.int _, ?_⟩)
  | (refine ⟨_, _, rfl, (by assumption : Kn _ _ _), ?_⟩)
  | (refine iteNS rfl ?_)
  | (refine iteF ?_)
  | (refine iteT ?_)
  | (refine Or.inl ⟨_, rfl, ?_⟩)
  | (refine Or.inr ⟨_, rfl, ?_⟩)
  | (refine And.intro sz4 ?_)
  | (refine And.intro (by first | exact rfl | assumption | decide | (show (0 : Int) < _; decide) | exact wide_div (b := 63) (by assumption) (by omega) (by decide) (by decide) | exact wide_div (b := 63) (by decide) (by decide) (by decide) (by decide) | exact Or.inl ⟨by decide, by decide⟩ | exact Or.inr ⟨by decide, by decide⟩ | exact ⟨by decide, by decide, by decide⟩ | exact Or.inl ⟨by omega, by omega⟩ | exact Or.inr ⟨by omega, by omega⟩) ?_)))

section
variable {P : Program} {w : World} {K : PySem.W.Frag} {mg : Str → Option Value} {base : Heap}
theorem p10_0 (T : Txt K mg) {cdv : Value} {Ar : Around} {outer : List Env} {s : Shared} {H0 : Hp} {E : XK} (hr : Room 13 (Ar.deeper (envOfC "law" (defScope s_law) s.heap.objs.size T.law.f cdv))) (gd : Ar.guards = some []) {a D : Addr} : PS (cxOf CX0 P w K mg base ["_law_script", "_law_deck_here", "_law_turn", "_law_names_here", "_law_pairs", "_law_paper", "_law_sums", "_law_is_strict", "_law_k", "_law_pair_here", "_law_often", "_law_more", "_law_conditions", "_law_value_here", "_law_form", "_law_strict"] "law" (defScope s_law) T.law.f cdv Ar outer s H0 E).nox (kid 0 (kid 1 s_law)) (tr (Ga0 K T.C_Form a D) (Ga1 K T.C_Form a D)) := by
  have nd := sc_law.nd
  refine ps_tr (ps_set (i := 3) nd rfl (.inl rfl) (pe_slice sl_list (pe_call (ok__law_names T) (hr.mono (by decide)) (by rfl) T._law_names.g T._law_names.F.kp T._law_names.b .nil pass0 (pa_cons (pv 1) pa_nil)) po_none (po_some (pe_op op_add pe_int (pe_call (ok__law_take T) (hr.mono (by decide)) (by rfl) T._law_take.g T._law_take.F.kp T._law_take.b .nil pass0 (pa_cons (pv 1) (pa_cons pe_int pa_nil))))))) (fun DD σ G h0 hk => ?_)
  obtain ⟨x2, x3, x4, x5, x6, x7, x8, x9, x10, x11, x12, x13, x14, x15, rfl, k⟩ := h0
  walk_at "go"
  intro F ns G1 _ hF nFD l5 hn un bu1 dk1
  walk_at "go"
  intro u G2 u0 u1 bu2 dk2
  have hF2 := bu2 _ _ nFD hF
  obtain ⟨m, rfl⟩ := Int.eq_ofNat_of_zero_le u0
  walk_at "go"
  refine ⟨F, _, rfl, SqL.of hF2, fun A nA => ?_⟩
  have cA : cutV (ns.map V.str) none (some (1 + (m : Int))) = (ns.take (1 + m)).map V.str := by
    rw [show (1 + (m : Int)) = ((1 + m : Nat) : Int) by omega, cut_to (by rw [List.length_map]; omega), List.map_take]
  have eA := ex_new (o := .lst (cutV (ns.map V.str) none (some (1 + (m : Int))))) nA
  rw [cA] at eA
  show _
  erw [cA]
  walk_at "go"
  exact hk _ _ ⟨_, _, _, _, _, _, _, _, _, _, _, _, _, _, _, rfl, dk2.ex eA, upd_same, dk2.ne nA, by rw [List.length_take]; omega, fun x hx => hn x (List.mem_of_mem_take hx), un.sublist (List.take_sublist ..)⟩
theorem p10_1 (T : Txt K mg) {cdv : Value} {Ar : Around} {outer : List Env} {s : Shared} {H0 : Hp} {E : XK} (hr : Room 13 (Ar.deeper (envOfC "law" (defScope s_law) s.heap.objs.size T.law.f cdv))) (gd : Ar.guards = some []) {a D : Addr} : PS (cxOf CX0 P w K mg base ["_law_script", "_law_deck_here", "_law_turn", "_law_names_here", "_law_pairs", "_law_paper", "_law_sums", "_law_is_strict", "_law_k", "_law_pair_here", "_law_often", "_law_more", "_law_conditions", "_law_value_here", "_law_form", "_law_strict"] "law" (defScope s_law) T.law.f cdv Ar outer s H0 E).nox (kid 1 (kid 1 s_law)) (tr (Ga1 K T.C_Form a D) (Gb0 K T.C_Form a D 0)) := by
  have nd := sc_law.nd
  refine ps_tr (ps_asg (pe_tup (pa_cons (pe_lst pa_nil) (pa_cons (pe_tup pa_nil) (pa_cons (pe_tup (pa_cons (pe_tup pa_nil) (pa_cons (pe_tup (pa_cons pe_int (pa_cons pe_int pa_nil))) pa_nil))) (pa_cons pe_bl pa_nil))))) (pg_tup rfl (pgs_cons (pg_name (i := 4) nd rfl (.inl rfl)) (pgs_cons (pg_name (i := 5) nd rfl (.inl rfl)) (pgs_cons (pg_name (i := 6) nd rfl (.inl rfl)) (pgs_cons (pg_name (i := 7) nd rfl (.inl rfl)) pgs_nil)))))) (fun DD σ G h0 hk => ?_)
  obtain ⟨x2, x4, x5, x6, x7, x8, x9, x10, x11, x12, x13, x14, x15, F, ns, rfl, k, hF, nF, l3, hn, un⟩ := h0
  walk_at "go"
  intro L nL
  have e1 := ex_new (o := .lst []) nL
  have nLD := k.ne nL
  have nLF : L ≠ F := fun z => by subst z; rw [hF] at nL; cases nL
  walk_at "go"
  intro p np
  have e2 := ex_new (o := .tup []) np
  walk_at "go"
  intro q0 n0
  have e3 := ex_new (o := .tup []) n0
  walk_at "go"
  intro q1 n1
  have e4 := ex_new (o := .tup [.int 0, .int 1]) n1
  walk_at "go"
  intro q2 n2
  have e5 := ex_new (o := .tup [.ref q0, .ref q1]) n2
  walk_at "go"
  intro q3 n3
  have e6 := ex_new (o := .tup [.ref L, .ref p, .ref q2, .bl false]) n3
  have e26 := e2.trans (e3.trans (e4.trans (e5.trans e6)))
  have e36 := e3.trans (e4.trans (e5.trans e6))
  have e := e1.trans e26
  have tk0 : TsK 1 [] ((0, 1) : Int × Int) := ⟨(fun t h => nomatch h), (fun t h => nomatch h), (fun t h => nomatch h), List.nodup_nil, by decide, ⟨by decide, by decide, by decide⟩, by decide⟩
  refine ⟨q3, _, rfl, SqT.of upd_same, rfl, ?_⟩
  walk_at "go"
  exact hk _ _ ⟨_, _, _, _, _, _, _, _, _, F, ns, L, [], [], p, [], .ref q2, [], (0, 1), false, rfl, k.ex e, e _ _ hF, nF, l3, hn, un, e26 _ _ upd_same, nLD, nLF, .nil, rfl, (fun c h => nomatch h), sqT_ex e36 (SqT.of upd_same), rfl, (fun j h => nomatch h), .tup (SqT.of (e6 _ _ upd_same)) (.cons (.tup (SqT.of ((e4.trans (e5.trans e6)) _ _ upd_same)) .nil) (.cons ((Dt.fr upd_same).ex (e5.trans e6)) .nil)), tk0, (fun t h => nomatch h), fun t h => nomatch h⟩
theorem p10_20 (T : Txt K mg) {cdv : Value} {Ar : Around} {outer : List Env} {s : Shared} {H0 : Hp} {E : XK} (hr : Room 13 (Ar.deeper (envOfC "law" (defScope s_law) s.heap.objs.size T.law.f cdv))) (gd : Ar.guards = some []) {a D : Addr} {n : Nat} {h5 : n < 5} : PS (cxOf CX0 P w K mg base ["_law_script", "_law_deck_here", "_law_turn", "_law_names_here", "_law_pairs", "_law_paper", "_law_sums", "_law_is_strict", "_law_k", "_law_pair_here", "_law_often", "_law_more", "_law_conditions", "_law_value_here", "_law_form", "_law_strict"] "law" (defScope s_law) T.law.f cdv Ar outer s H0 E).nox (kid 0 (kid 2 (kid 1 s_law))) (tr (Gb0 K T.C_Form a D n) (Gb1 K T.C_Form a D n)) := by
  have nd := sc_law.nd
  refine ps_tr (ps_set (i := 9) nd rfl (.inl rfl) (pe_tup (pa_cons (pe_call (ok__law_pair T) (hr.mono (by decide)) (by rfl) T._law_pair.g T._law_pair.F.kp T._law_pair.b .nil pass0 (pa_cons (pv 1) (pa_cons (pv 3) pa_nil))) (pa_cons (pe_cmpR op_eq (pe_call (ok__law_take T) (hr.mono (by decide)) (by rfl) T._law_take.g T._law_take.F.kp T._law_take.b .nil pass0 (pa_cons (pv 1) (pa_cons pe_int pa_nil))) pe_int (nomark _)) pa_nil)))) (fun DD σ G h0 hk => ?_)
  obtain ⟨x2, x8, x9, x10, x11, x12, x13, x14, x15, F, ns, L, vl, cs, p, js, v, ts, c, b, rfl, k, hF, nF, l3, hn, un, hL, nL, nLF, hc, lc, okc, hp, lj, bj, dv, tk, nz, sub⟩ := h0
  walk_at "go"
  refine ⟨D, F, ns, rfl, k, hF, nF, by omega, un, hn, fun w ts2 c2 G2 dw tk2 nz2 sub2 bu2 k2 => ?_⟩
  walk_at "go"
  intro u G3 u0 u1 bu3 k3
  walk_at "go"
  intro q nq
  have e4 := ex_new (o := .tup [w, .bl (decide (V.int u = V.int 1))]) nq
  have bu := bu2.trans (bu3.trans (Bu.of e4))
  have k4 := k3.ex e4
  have dw4 : Dt K D (upd G3 q (.tup [w, .bl (decide (V.int u = V.int 1))])) (.ref q) (cD ⟨ts2, c2, decide (V.int u = V.int 1)⟩) := .tup (SqT.of upd_same) (.cons ((dw.bu k2 bu3).ex e4) (.cons (.bl _) .nil))
  have ok2 : CdOk 3 ns ⟨ts2, c2, decide (V.int u = V.int 1)⟩ := ⟨tk2, nz2, sub2⟩
  walk_at "go"
  have hp2 := sqT_bu k bu hp
  exact hk _ _ ⟨_, _, _, _, _, _, _, _, _, _, _, _, _, _, _, _, _, _, _, _, _, rfl, k4, (bu _ _ nF hF), nF, l3, hn, un, (bu _ _ nL hL), nL, nLF, (hc.bu k bu), lc, okc, hp2, lj, bj, (dv.bu k bu), tk, nz, sub, dw4, ok2⟩
theorem p10_21 (T : Txt K mg) {cdv : Value} {Ar : Around} {outer : List Env} {s : Shared} {H0 : Hp} {E : XK} (hr : Room 13 (Ar.deeper (envOfC "law" (defScope s_law) s.heap.objs.size T.law.f cdv))) (gd : Ar.guards = some []) {a D : Addr} {n : Nat} {h5 : n < 5} : PS (cxOf CX0 P w K mg base ["_law_script", "_law_deck_here", "_law_turn", "_law_names_here", "_law_pairs", "_law_paper", "_law_sums", "_law_is_strict", "_law_k", "_law_pair_here", "_law_often", "_law_more", "_law_conditions", "_law_value_here", "_law_form", "_law_strict"] "law" (defScope s_law) T.law.f cdv Ar outer s H0 E).nox (kid 1 (kid 2 (kid 1 s_law))) (tr (Gb1 K T.C_Form a D n) (Gb2 K T.C_Form a D n)) := by
  have nd := sc_law.nd
  refine ps_tr (ps_set (i := 10) nd rfl (.inl rfl) (pe_call (ok__law_take T) (hr.mono (by decide)) (by rfl) T._law_take.g T._law_take.F.kp T._law_take.b .nil pass0 (pa_cons (pv 1) (pa_cons pe_int pa_nil)))) (fun DD σ G h0 hk => ?_)
  obtain ⟨x2, x8, x10, x11, x12, x13, x14, x15, F, ns, L, vl, cs, p, js, v, ts, c, b, w, c2, rfl, k, hF, nF, l3, hn, un, hL, nL, nLF, hc, lc, okc, hp, lj, bj, dv, tk, nz, sub, dw, ok2⟩ := h0
  walk_at "go"
  intro u G2 u0 u1 bu k2
  have hp2 := sqT_bu k bu hp
  walk_at "go"
  exact hk _ _ ⟨_, _, _, _, _, _, _, _, _, _, _, _, _, _, _, _, _, _, _, _, _, rfl, k2, (bu _ _ nF hF), nF, l3, hn, un, (bu _ _ nL hL), nL, nLF, (hc.bu k bu), lc, okc, hp2, lj, bj, (dv.bu k bu), tk, nz, sub, (dw.bu k bu), ok2, u0, u1⟩
theorem p10_22 (T : Txt K mg) {cdv : Value} {Ar : Around} {outer : List Env} {s : Shared} {H0 : Hp} {E : XK} (hr : Room 13 (Ar.deeper (envOfC "law" (defScope s_law) s.heap.objs.size T.law.f cdv))) (gd : Ar.guards = some []) {a D : Addr} {n : Nat} {h5 : n < 5} : PS (cxOf CX0 P w K mg base ["_law_script", "_law_deck_here", "_law_turn", "_law_names_here", "_law_pairs", "_law_paper", "_law_sums", "_law_is_strict", "_law_k", "_law_pair_here", "_law_often", "_law_more", "_law_conditions", "_law_value_here", "_law_form", "_law_strict"] "law" (defScope s_law) T.law.f cdv Ar outer s H0 E).nox (kid 2 (kid 2 (kid 1 s_law))) (tr (Gb2 K T.C_Form a D n) (Gb3 K T.C_Form a D n)) := by
  have nd := sc_law.nd
  refine ps_tr (ps_set (i := 6) nd rfl (.inl rfl) (pe_call (ok__law_added T) (hr.mono (by decide)) (by rfl) T._law_added.g T._law_added.F.kp T._law_added.b .nil pass0 (pa_cons (pv 6) (pa_cons (pe_call (ok__law_scaled T) (hr.mono (by decide)) (by rfl) T._law_scaled.g T._law_scaled.F.kp T._law_scaled.b .nil pass0 (pa_cons (pe_ix ix_tup (pe_ix ix_tup (pv 9) pe_int (fun _ _ => rfl)) pe_int (fun _ _ => rfl)) (pa_cons (pe_ix ix_tup (pe_ix ix_tup (pv 9) pe_int (fun _ _ => rfl)) pe_int (fun _ _ => rfl)) (pa_cons (pe_tup (pa_cons (pv 10) (pa_cons pe_int pa_nil))) pa_nil)))) pa_nil)))) (fun DD σ G h0 hk => ?_)
  obtain ⟨x2, x8, x11, x12, x13, x14, x15, F, ns, L, vl, cs, p, js, v, ts, c, b, w, c2, o, rfl, k, hF, nF, l3, hn, un, hL, nL, nLF, hc, lc, okc, hp, lj, bj, dv, tk, nz, sub, dw, ok2, o0, o4⟩ := h0
  obtain ⟨pq, ys, rfl, ty2, gy⟩ := Dt.tupA dw
  obtain ⟨w1, w2, rfl, g1, g2⟩ := two_at gy
  obtain ⟨pg, zz, rfl, tz, gz⟩ := g1.tupA
  obtain ⟨u1, u2, rfl, h3, h4⟩ := two_at gz
  have so : Sm 2 ((o, 1) : Int × Int) := ⟨show o.natAbs < 4 by omega, (show (1 : Int).natAbs < 2 ^ 2 by decide), (by decide : (0 : Int) < 1)⟩
  obtain ⟨tk5, _, _⟩ := mul_ok ok2.t so
  have sub5 : ∀ t ∈ mulL (o, 1) c2.ts, t.1 ∈ ns := fun t ht => by
    obtain ⟨u, hu, rfl⟩ := List.mem_map.mp ht
    exact ok2.i u hu
  walk_at "go"
  intro p4 n4
  have e4 := ex_new (o := .tup [.int o, .int 1]) n4
  walk_at "go"
  refine ⟨D, p4, u1, u2, 3, 2, c2.ts, c2.f, (o, 1), rfl, h3.ex e4, h4.ex e4, SqT.of upd_same, ok2.t, so, by decide, by decide, by decide, by decide, fun v5 G5 dv5 e5 => ?_⟩
  walk_at "go"
  refine ⟨D, v, v5, 1 + 7 * n, 6, ns, ts, mulL (o, 1) c2.ts, c, ti c2.f (o, 1), rfl, dv.ex (e4.trans e5), dv5, tk, tk5, by omega, by decide, by omega, by omega, sub, sub5, fun v6 z6 h6 G6 d6 tk6 nz6 s6 c6 r6 e6 => ?_⟩
  have e := e4.trans (e5.trans e6)
  have hp2 := sqT_ex e hp
  have dw2 : Dt K D G6 (.ref pq) (cD c2) := (Dt.tup ty2 (.cons (.tup tz (.cons h3 (.cons h4 .nil))) (.cons g2 .nil))).ex e
  have tk7 := tk6.mono (show 1 + 7 * n + 6 + 1 ≤ 1 + 7 * (n + 1) by omega)
  walk_at "go"
  exact hk _ _ ⟨_, _, _, _, _, _, _, F, ns, L, vl, cs, p, js, v6, z6, h6, b, .ref pq, c2, o, rfl, k.ex e, e _ _ hF, nF, l3, hn, un, e _ _ hL, nL, nLF, hc.ex e, lc, okc, hp2, lj, bj, dw2, ok2, o0, o4, d6, tk7, nz6, s6⟩
theorem p10_23 (T : Txt K mg) {cdv : Value} {Ar : Around} {outer : List Env} {s : Shared} {H0 : Hp} {E : XK} (hr : Room 13 (Ar.deeper (envOfC "law" (defScope s_law) s.heap.objs.size T.law.f cdv))) (gd : Ar.guards = some []) {a D : Addr} {n : Nat} {h5 : n < 5} : PS (cxOf CX0 P w K mg base ["_law_script", "_law_deck_here", "_law_turn", "_law_names_here", "_law_pairs", "_law_paper", "_law_sums", "_law_is_strict", "_law_k", "_law_pair_here", "_law_often", "_law_more", "_law_conditions", "_law_value_here", "_law_form", "_law_strict"] "law" (defScope s_law) T.law.f cdv Ar outer s H0 E).nox (kid 3 (kid 2 (kid 1 s_law))) (tr (Gb3 K T.C_Form a D n) (Gb3 K T.C_Form a D n)) := by
  have nd := sc_law.nd
  refine ps_tr (ps_set (i := 7) nd rfl (.inl rfl) (pe_or (pv 7) (pe_one (pe_and (pe_ix ix_tup (pv 9) pe_int (fun _ _ => rfl)) (pe_one (pe_cmpR op_gt (pv 10) pe_int (nomark _))))))) (fun DD σ G h0 hk => ?_)
  obtain ⟨x2, x8, x11, x12, x13, x14, x15, F, ns, L, vl, cs, p, js, v, ts, c, b, w, c2, o, rfl, k, hF, nF, l3, hn, un, hL, nL, nLF, hc, lc, okc, hp, lj, bj, dw, ok2, o0, o4, dv, tk, nz, sub⟩ := h0
  obtain ⟨pq, ys, rfl, ty2, gy⟩ := Dt.tupA dw
  obtain ⟨w1, w2, rfl, g1, g2⟩ := two_at gy
  have dw2 : Dt K D G (.ref pq) (cD c2) := .tup ty2 (.cons g1 (.cons g2 .nil))
  have ew : w2 = .bl c2.b := by
    cases g2
    rfl
  subst ew
  have fin : ∀ b', DD.nx [some (.ref a), some (.ref D), x2, some (.ref F), some (.ref L), some (.ref p), some v, some (.bl b'), x8, some (.ref pq), some (.int o), x11, x12, x13, x14, x15] G := fun b' => hk _ _ ⟨_, _, _, _, _, _, _, F, ns, L, vl, cs, p, js, v, ts, c, b', .ref pq, c2, o, rfl, k, hF, nF, l3, hn, un, hL, nL, nLF, hc, lc, okc, hp, lj, bj, dw2, ok2, o0, o4, dv, tk, nz, sub⟩
  walk_at "go"
  cases b with
  | true =>
    walk_at "go"
    exact fin _
  | false =>
    walk_at "go"
    cases hb : c2.b with
    | true =>
      rw [hb] at ty2
      walk_at "go"
      exact fin _
    | false =>
      walk_at "go"
      exact fin _
end
end K10
set_option pp.maxSteps 600
set_option pp.deepTerms false
namespace K10
open PySem PySem.Spec PyProof.Rows L2 Qj
local macro_rules | `(tactic| walk_at "go") => `(tactic| repeat (first
  | (refine ⟨_, rfl, ?_⟩)
  | (refine ⟨_, _, rfl, rfl, ?_⟩)
  | (refine ⟨_, _, rfl, ?_⟩)
  | (refine ⟨_, _, _, _, rfl, rfl, SqL.of (by assumption), rfl, ?_⟩)
  | (refine ⟨_, _, _, _, rfl, rfl, SqL.of upd_same, rfl, ?_⟩)
  | (refine ⟨_, _, _, _, rfl, rfl, SqT.of (by assumption), rfl, ?_⟩)
  | (refine ⟨_, _, _, _, rfl, rfl, SqT.of upd_same, rfl, ?_⟩)
  | (refine ⟨_, _, _, _, rfl, rfl, (by assumption), rfl, ?_⟩)
  | (refine ⟨_, _, _, _, rfl, rfl, upd_same, rfl, ?_⟩)
  | (refine ⟨_, _, rfl, Or.inl (by assumption), ?_⟩)
  | (refine ⟨_, _, rfl, Or.inr (SqT.of (by assumption)), ?_⟩)
  | (refine ⟨_, _, rfl, Or.inr (SqT.of upd_same), ?_⟩)
  | (refine ⟨_, _, rfl, Or.inl (SqL.of (by assumption)), ?_⟩)
  | (refine ⟨_, _, rfl, Or.inr (by assumption : SqT _ _ _ _), ?_⟩)
  | (refine ⟨_, _, rfl, (by assumption : SqT _ _ _ _), rfl, ?_⟩)
  | (refine ⟨_, _, rfl, SqT.of upd_same, rfl, ?_⟩)
  | (refine ⟨_, _, rfl, SqT.of (by assumption), rfl, ?_⟩)
  | (refine ⟨_, _, rfl, Kn.int _, ?_⟩)
  | (refine ⟨_, _, rfl, (by assumption : Kn _ _ _), ?_⟩)
  | (refine iteNS rfl ?_)
  | (refine iteF ?_)
  | (refine iteT ?_)
  | (refine Or.inl ⟨_, rfl, ?_⟩)
  | (refine Or.inr ⟨_, rfl, ?_⟩)
  | (refine And.intro sz4 ?_)
  | (refine And.intro (by first | exact rfl | assumption | decide | (show (0 : Int) < _; decide) | exact wide_div (b := 63) (by assumption) (by omega) (by decide) (by decide) | exact wide_div (b := 63) (by decide) (by decide) (by decide) (by decide) | exact Or.inl ⟨by decide, by decide⟩ | exact Or.inr ⟨by decide, by decide⟩ | exact ⟨by decide, by decide, by decide⟩ | exact Or.inl ⟨by omega, by omega⟩ | exact Or.inr ⟨by omega, by omega⟩) ?_)))

section
variable {P : Program} {w : World} {K : PySem.W.Frag} {mg : Str → Option Value} {base : Heap}
theorem p10_24 (T : Txt K mg) {cdv : Value} {Ar : Around} {outer : List Env} {s : Shared} {H0 : Hp} {E : XK} (hr : Room 13 (Ar.deeper (envOfC "law" (defScope s_law) s.heap.objs.size T.law.f cdv))) (gd : Ar.guards = some []) {a D : Addr} {n : Nat} {h5 : n < 5} : PS (cxOf CX0 P w K mg base ["_law_script", "_law_deck_here", "_law_turn", "_law_names_here", "_law_pairs", "_law_paper", "_law_sums", "_law_is_strict", "_law_k", "_law_pair_here", "_law_often", "_law_more", "_law_conditions", "_law_value_here", "_law_form", "_law_strict"] "law" (defScope s_law) T.law.f cdv Ar outer s H0 E).nox (kid 4 (kid 2 (kid 1 s_law))) (tr (Gb3 K T.C_Form a D n) (Gb4 K T.C_Form a D n)) := by
  have nd := sc_law.nd
  refine ps_tr (ps_expr (pe_bm PySem.F.plainAttrs_list PySem.F.slot_list_append PySem.F.type_list_append mt_append (pv 4) (pa_cons (pv 9) pa_nil))) (fun DD σ G h0 hk => ?_)
  obtain ⟨x2, x8, x11, x12, x13, x14, x15, F, ns, L, vl, cs, p, js, v, ts, c, b, w, c2, o, rfl, k, hF, nF, l3, hn, un, hL, nL, nLF, hc, lc, okc, hp, lj, bj, dw, ok2, o0, o4, dv, tk, nz, sub⟩ := h0
  have lv := hc.len
  rw [List.length_map] at lv
  have kv := Kv.upd (o2 := .lst (vl ++ [w])) hL rfl
  walk_at "go"
  refine ⟨.inl ⟨rfl, _, SqL.of hL⟩, ?_⟩
  walk_at "go"
  refine ⟨L, _, _, rfl, rfl, hL, by rw [sizeLine_eq]; omega, ?_⟩
  refine hk _ _ ⟨_, _, _, _, _, _, _, F, ns, L, vl ++ [w], cs ++ [c2], p, js, v, ts, c, b, w, c2, o, rfl, Bt.deck (L := L) (fun b u h e => by rw [upd_ne h]; exact e) nL k, by rw [upd_ne (Ne.symm nLF)]; exact hF, nF, l3, hn, un, upd_same, nL, nLF, ?_, fun d hd => ?_, kv.sqT hp, lj, bj, kv.dt dw (noL_c c2), ok2, o0, o4, kv.dt dv ?_, tk, nz, sub, by rw [List.length_append, lc]; rfl⟩
  · rw [List.map_append]
    exact (kv.dtA hc (noLA_cs cs)).app (DtA.one (kv.dt dw (noL_c c2)))
  · rcases List.mem_append.mp hd with h | h
    · exact okc d h
    · rw [List.mem_singleton.mp h]
      exact ⟨ok2.t.mono (by decide), ok2.z, ok2.i⟩
  · have z := noL_c ⟨ts, c, true⟩
    simp only [cD, noL, noLA, Bool.and_true] at z
    exact z
theorem p10_25 (T : Txt K mg) {cdv : Value} {Ar : Around} {outer : List Env} {s : Shared} {H0 : Hp} {E : XK} (hr : Room 13 (Ar.deeper (envOfC "law" (defScope s_law) s.heap.objs.size T.law.f cdv))) (gd : Ar.guards = some []) {a D : Addr} {n : Nat} {h5 : n < 5} : PS (cxOf CX0 P w K mg base ["_law_script", "_law_deck_here", "_law_turn", "_law_names_here", "_law_pairs", "_law_paper", "_law_sums", "_law_is_strict", "_law_k", "_law_pair_here", "_law_often", "_law_more", "_law_conditions", "_law_value_here", "_law_form", "_law_strict"] "law" (defScope s_law) T.law.f cdv Ar outer s H0 E).nox (kid 5 (kid 2 (kid 1 s_law))) (tr (Gb4 K T.C_Form a D n) (Gb0 K T.C_Form a D (n + 1))) := by
  have nd := sc_law.nd
  refine ps_tr (ps_set (i := 5) nd rfl (.inl rfl) (pe_op op_catA (pv 5) (pe_tup (pa_cons (pv 10) pa_nil)))) (fun DD σ G h0 hk => ?_)
  obtain ⟨x2, x8, x11, x12, x13, x14, x15, F, ns, L, vl, cs, p, js, v, ts, c, b, w, c2, o, rfl, k, hF, nF, l3, hn, un, hL, nL, nLF, hc, okc, hp, lj, bj, dw, ok2, o0, o4, dv, tk, nz, sub, lc⟩ := h0
  have ljv : (js.map V.int).length = js.length := List.length_map ..
  walk_at "go"
  intro q nq
  have e1 := ex_new (o := .tup [.int o]) nq
  walk_at "go"
  refine catA_ok (ys := [.int o]) (sqT_ex e1 hp) (SqT.of upd_same) (by rw [ljv, sizeLine_eq]; simp only [List.length_cons, List.length_nil]; omega) fun p2 G2 e2 t2 => ?_
  have e := e1.trans e2
  have t2' : SqT K G2 p2 ((js ++ [o]).map V.int) := by
    rw [List.map_append]
    exact t2
  walk_at "go"
  exact hk _ _ ⟨_, _, _, _, _, _, _, _, _, F, ns, L, vl, cs, p2, js ++ [o], v, ts, c, b, rfl, k.ex e, e _ _ hF, nF, l3, hn, un, e _ _ hL, nL, nLF, hc.ex e, lc, okc, t2', by rw [List.length_append, lj]; rfl, (fun j hj => by
    rcases List.mem_append.mp hj with h | h
    · exact bj j h
    · rw [List.mem_singleton.mp h]
      omega), dv.ex e, tk, nz, sub⟩
theorem p10_2 (T : Txt K mg) {cdv : Value} {Ar : Around} {outer : List Env} {s : Shared} {H0 : Hp} {E : XK} (hr : Room 13 (Ar.deeper (envOfC "law" (defScope s_law) s.heap.objs.size T.law.f cdv))) (gd : Ar.guards = some []) {a D : Addr} : PS (cxOf CX0 P w K mg base ["_law_script", "_law_deck_here", "_law_turn", "_law_names_here", "_law_pairs", "_law_paper", "_law_sums", "_law_is_strict", "_law_k", "_law_pair_here", "_law_often", "_law_more", "_law_conditions", "_law_value_here", "_law_form", "_law_strict"] "law" (defScope s_law) T.law.f cdv Ar outer s H0 E).nox (kid 2 (kid 1 s_law)) (tr (Gb0 K T.C_Form a D 0) (Ga8 K T.C_Form a D)) := by
  have nd := sc_law.nd
  refine ps_tr (ps_for PassesOwn.never rfl (pi_range1 rfl T.m_range (pa_cons (pe_op op_add pe_int (pe_call (ok__law_take T) (hr.mono (by decide)) (by rfl) T._law_take.g T._law_take.F.kp T._law_take.b .nil pass0 (pa_cons (pv 1) (pa_cons pe_int pa_nil)))) pa_nil)) (pg_name (i := 8) nd rfl (.inl rfl))
        (pss_cons (ps_trX fun (i : Addr × Addr × Fin 5) => p10_20 T hr gd (a := i.1) (D := i.2.1) (n := i.2.2.val) (h5 := i.2.2.isLt))
        (pss_cons (ps_trX fun (i : Addr × Addr × Fin 5) => p10_21 T hr gd (a := i.1) (D := i.2.1) (n := i.2.2.val) (h5 := i.2.2.isLt))
        (pss_cons (ps_trX fun (i : Addr × Addr × Fin 5) => p10_22 T hr gd (a := i.1) (D := i.2.1) (n := i.2.2.val) (h5 := i.2.2.isLt))
        (pss_cons (ps_trX fun (i : Addr × Addr × Fin 5) => p10_23 T hr gd (a := i.1) (D := i.2.1) (n := i.2.2.val) (h5 := i.2.2.isLt))
        (pss_cons (ps_trX fun (i : Addr × Addr × Fin 5) => p10_24 T hr gd (a := i.1) (D := i.2.1) (n := i.2.2.val) (h5 := i.2.2.isLt))
        (pss_one (ps_trX fun (i : Addr × Addr × Fin 5) => p10_25 T hr gd (a := i.1) (D := i.2.1) (n := i.2.2.val) (h5 := i.2.2.isLt))))))))) (fun DD σ G h0 hk => ?_)
  obtain ⟨x2, x8, x9, x10, x11, x12, x13, x14, x15, F, ns, L, vl, cs, p, js, v, ts, c, b, rfl, k, hF, nF, l3, hn, un, hL, nL, nLF, hc, lc, okc, hp, lj, bj, dv, tk, nz, sub⟩ := h0
  walk_at "go"
  intro u G2 u0 u1 bu k2
  have hp2 := sqT_bu k bu hp
  walk_at "go"
  refine ⟨by omega, by omega, for_range (n := (1 + u).toNat) (fun i σ G => Gb0 K T.C_Form a D i σ G) ?_ ?_ ?_⟩
  · exact ⟨_, _, _, _, _, _, _, _, _, _, _, _, _, _, _, _, _, _, _, _, rfl, k2, (bu _ _ nF hF), nF, l3, hn, un, (bu _ _ nL hL), nL, nLF, (hc.bu k bu), lc, okc, hp2, lj, bj, (dv.bu k bu), tk, nz, sub⟩
  · rintro i σ G hi h
    obtain ⟨x2, x8, x9, x10, x11, x12, x13, x14, x15, F, ns, L, vl, cs, p, js, v, ts, c, b, rfl, k, hF, nF, l3, hn, un, hL, nL, nLF, hc, lc, okc, hp, lj, bj, dv, tk, nz, sub⟩ := h
    have i5 : i < 5 := by omega
    exact ⟨(a, D, ⟨i, i5⟩), ⟨_, _, _, _, _, _, _, _, _, _, _, _, _, _, _, _, _, _, _, _, rfl, k, hF, nF, l3, hn, un, hL, nL, nLF, hc, lc, okc, hp, lj, bj, dv, tk, nz, sub⟩, fun _ _ h1 => ⟨(a, D, ⟨i, i5⟩), h1, fun _ _ h2 => ⟨(a, D, ⟨i, i5⟩), h2, fun _ _ h3 => ⟨(a, D, ⟨i, i5⟩), h3, fun _ _ h4 => ⟨(a, D, ⟨i, i5⟩), h4, fun _ _ h5 => ⟨(a, D, ⟨i, i5⟩), h5, fun _ _ h6 => h6⟩⟩⟩⟩⟩⟩
  · rintro σ G h
    obtain ⟨x2, x8, x9, x10, x11, x12, x13, x14, x15, F, ns, L, vl, cs, p, js, v, ts, c, b, rfl, k, hF, nF, l3, hn, un, hL, nL, nLF, hc, lc, okc, hp, lj, bj, dv, tk, nz, sub⟩ := h
    have tk2 := tk.mono (show _ ≤ 36 by omega)
    exact hk _ _ ⟨_, _, _, _, _, _, _, _, _, _, _, _, _, _, _, _, _, _, _, _, rfl, k, hF, nF, l3, hn, un, hL, nL, nLF, hc, by omega, okc, hp, by omega, bj, dv, tk2, nz, sub⟩
theorem p10_3 (T : Txt K mg) {cdv : Value} {Ar : Around} {outer : List Env} {s : Shared} {H0 : Hp} {E : XK} (hr : Room 13 (Ar.deeper (envOfC "law" (defScope s_law) s.heap.objs.size T.law.f cdv))) (gd : Ar.guards = some []) {a D : Addr} : PS (cxOf CX0 P w K mg base ["_law_script", "_law_deck_here", "_law_turn", "_law_names_here", "_law_pairs", "_law_paper", "_law_sums", "_law_is_strict", "_law_k", "_law_pair_here", "_law_often", "_law_more", "_law_conditions", "_law_value_here", "_law_form", "_law_strict"] "law" (defScope s_law) T.law.f cdv Ar outer s H0 E).nox (kid 3 (kid 1 s_law)) (tr (Ga8 K T.C_Form a D) (Ga9 K T.C_Form a D)) := by
  have nd := sc_law.nd
  refine ps_tr (ps_set (i := 11) nd rfl (.inl rfl) (pe_ifExp (pt_cmpR op_eq (pe_call (ok__law_take T) (hr.mono (by decide)) (by rfl) T._law_take.g T._law_take.F.kp T._law_take.b .nil pass0 (pa_cons (pv 1) (pa_cons pe_int pa_nil))) pe_int (nomark _)) (pe_tup (pa_cons pe_int (pa_cons pe_int pa_nil))) (pe_call (ok__law_frac T) (hr.mono (by decide)) (by rfl) T._law_frac.g T._law_frac.F.kp T._law_frac.b .nil pass0 (pa_cons (pe_op op_add pe_int (pe_call (ok__law_take T) (hr.mono (by decide)) (by rfl) T._law_take.g T._law_take.F.kp T._law_take.b .nil pass0 (pa_cons (pv 1) (pa_cons pe_int pa_nil)))) (pa_cons pe_int pa_nil))))) (fun DD σ G h0 hk => ?_)
  obtain ⟨x2, x7, x8, x9, x10, x11, x12, x13, x14, x15, F, ns, L, vl, cs, p, js, v, ts, c, rfl, k, hF, nF, l3, hn, un, hL, nL, nLF, hc, lc, okc, hp, lj, bj, dv, tk, nz, sub⟩ := h0
  walk_at "go"
  intro u G2 u0 u1 bu2 k2
  have hp2 := sqT_bu k bu2 hp
  walk_at "go"
  refine ite2 (fun h1 => ?_) (fun h1 => ?_)
  · walk_at "go"
    intro q nq
    have e3 := ex_new (o := .tup [.int 0, .int 1]) nq
    have bu := bu2.trans (Bu.of e3)
    have k4 := k2.ex e3
    have hp4 := sqT_ex e3 hp2
    have hx : FrA K (upd G2 q (.tup [.int 0, .int 1])) q ((0, 1) : Int × Int) := SqT.of upd_same
    have sx : Sm 3 ((0, 1) : Int × Int) := ⟨by decide, by decide, by decide⟩
    walk_at "go"
    exact hk _ _ ⟨_, _, _, _, _, _, _, _, _, F, ns, L, vl, cs, p, js, v, ts, c, q, (0, 1), rfl, k4, bu _ _ nF hF, nF, l3, hn, un, bu _ _ nL hL, nL, nLF, hc.bu k bu, lc, okc, hp4, lj, bj, dv.bu k bu, tk, nz, sub, hx, sx, rfl⟩
  · walk_at "go"
    intro u3 G3 v0 v1 bu3 k3
    walk_at "go"
    refine ⟨pow_up (show (1 + u3).natAbs < 2 ^ 3 by omega) (by decide), pow_up (show (2 : Int).natAbs < 2 ^ 3 by decide) (by decide), fun r H' nr e hr' => ?_⟩
    have bu := bu2.trans (bu3.trans (Bu.of e))
    have k4 := k3.ex e
    have hp4 := sqT_bu k bu hp
    have sx : Sm 3 (fr (1 + u3) 2) := sm_fr (by decide) (show (1 + u3).natAbs < 2 ^ 3 by omega) (by decide)
    have gx := fr_gcd (t := 1 + u3) (show (2 : Int) ≠ 0 by decide)
    walk_at "go"
    exact hk _ _ ⟨_, _, _, _, _, _, _, _, _, F, ns, L, vl, cs, p, js, v, ts, c, r, _, rfl, k4, bu _ _ nF hF, nF, l3, hn, un, bu _ _ nL hL, nL, nLF, hc.bu k bu, lc, okc, hp4, lj, bj, dv.bu k bu, tk, nz, sub, SqT.of hr', sx, gx⟩
theorem p10_4 (T : Txt K mg) {cdv : Value} {Ar : Around} {outer : List Env} {s : Shared} {H0 : Hp} {E : XK} (hr : Room 13 (Ar.deeper (envOfC "law" (defScope s_law) s.heap.objs.size T.law.f cdv))) (gd : Ar.guards = some []) {a D : Addr} : PS (cxOf CX0 P w K mg base ["_law_script", "_law_deck_here", "_law_turn", "_law_names_here", "_law_pairs", "_law_paper", "_law_sums", "_law_is_strict", "_law_k", "_law_pair_here", "_law_often", "_law_more", "_law_conditions", "_law_value_here", "_law_form", "_law_strict"] "law" (defScope s_law) T.law.f cdv Ar outer s H0 E).nox (kid 4 (kid 1 s_law)) (tr (Ga9 K T.C_Form a D) (Ga10 K T.C_Form a D)) := by
  have nd := sc_law.nd
  refine ps_tr (ps_expr (pe_bm PySem.F.plainAttrs_list PySem.F.slot_list_append PySem.F.type_list_append mt_append (pv 4) (pa_cons (pe_tup (pa_cons (pe_call (ok__law_scaled T) (hr.mono (by decide)) (by rfl) T._law_scaled.g T._law_scaled.F.kp T._law_scaled.b .nil pass0 (pa_cons (pe_ix ix_tup (pv 6) pe_int (fun _ _ => rfl)) (pa_cons (pe_call (ok__law_plus T) (hr.mono (by decide)) (by rfl) T._law_plus.g T._law_plus.F.kp T._law_plus.b .nil pass0 (pa_cons (pe_ix ix_tup (pv 6) pe_int (fun _ _ => rfl)) (pa_cons (pv 11) pa_nil))) (pa_cons (pe_tup (pa_cons (pe_un un_neg pe_int) (pa_cons pe_int pa_nil))) pa_nil)))) (pa_cons (pe_cmpR op_eq (pe_call (ok__law_take T) (hr.mono (by decide)) (by rfl) T._law_take.g T._law_take.F.kp T._law_take.b .nil pass0 (pa_cons (pv 1) (pa_cons pe_int pa_nil))) pe_int (nomark _)) pa_nil))) pa_nil))) (fun DD σ G h0 hk => ?_)
  obtain ⟨x2, x7, x8, x9, x10, x12, x13, x14, x15, F, ns, L, vl, cs, p, js, v, ts, c, pm, x, rfl, k, hF, nF, l3, hn, un, hL, nL, nLF, hc, lc, okc, hp, lj, bj, dv, tk, nz, sub, hx, sx, gx⟩ := h0
  have lv := hc.len
  rw [List.length_map] at lv
  obtain ⟨pf, zs, rfl, tz, gz⟩ := Dt.tupA dv
  obtain ⟨u1, u2, rfl, h1, h2⟩ := two_at gz
  obtain ⟨pc, rfl, hpc⟩ := h2.fa
  have ss : Sm 1 ((-1, 1) : Int × Int) := ⟨by decide, by decide, by decide⟩
  have lx : Lowt x := ⟨sx.p, gx⟩
  have sp := sm_pl tk.fs sx
  have tk2 : TsK 40 ts (pl c x) := ⟨tk.n, fun t h => (tk.s t h).mono (by decide), tk.g, tk.u, tk.l, sp.mono (by decide), (lw_pl tk.fs.p sx.p).g⟩
  obtain ⟨tk5, _, _⟩ := mul_ok tk2 ss
  have nz5 := mulL_nz (s := (-1, 1)) nz (fun t h => (tk.s t h).p) (by decide) (by decide)
  have sub5 : ∀ t ∈ mulL (-1, 1) ts, t.1 ∈ ns := fun t ht => by
    obtain ⟨u, hu, rfl⟩ := List.mem_map.mp ht
    exact sub u hu
  walk_at "go"
  refine ⟨.inl ⟨rfl, _, SqL.of hL⟩, ?_⟩
  walk_at "go"
  refine ⟨pc, pm, c, x, 36, rfl, hpc, hx, tk.fs, sx.mono (by decide), by decide, by decide, fun p3 G3 np3 e3 hp3 => ?_⟩
  walk_at "go"
  intro p4 n4
  have e4 := ex_new (o := .tup [.int (-1), .int 1]) n4
  have e34 := e3.trans e4
  walk_at "go"
  refine ⟨D, p4, u1, .ref p3, 40, 1, ts, pl c x, (-1, 1), rfl, h1.ex e34, (Dt.fr hp3).ex e4, SqT.of upd_same, tk2, ss, by decide, by decide, by decide, by decide, fun v5 G5 dv5 e5 => ?_⟩
  have e35 := e34.trans e5
  have k5 := k.ex e35
  walk_at "go"
  intro w G6 w0 w1 bu6 k6
  walk_at "go"
  intro p7 n7
  have e7 := ex_new (o := .tup [v5, .bl (decide (V.int w = V.int 1))]) n7
  have bu := (Bu.of e35).trans (bu6.trans (Bu.of e7))
  have k7 := k6.ex e7
  have hL7 := bu _ _ nL hL
  have hF7 := bu _ _ nF hF
  have kv := Kv.upd (o2 := .lst (vl ++ [V.ref p7])) hL7 rfl
  walk_at "go"
  refine ⟨L, _, _, rfl, rfl, hL7, by rw [sizeLine_eq]; omega, ?_⟩
  refine hk _ _ ⟨_, _, _, _, _, _, _, _, _, _, _, F, ns, L, vl ++ [.ref p7], cs ++ [⟨mulL (-1, 1) ts, ti (pl c x) (-1, 1), decide (V.int w = V.int 1)⟩], p, js, rfl, Bt.deck (L := L) (fun b u h e => by rw [upd_ne h]; exact e) nL k7, by rw [upd_ne (Ne.symm nLF)]; exact hF7, nF, l3, hn, un, upd_same, nL, nLF, ?_, by rw [List.length_append]; exact Nat.succ_le_succ lc, fun d hd => ?_, kv.sqT (sqT_bu k bu hp), by rw [List.length_append, lj]; rfl, bj⟩
  · rw [List.map_append]
    refine (kv.dtA (hc.bu k bu) (noLA_cs cs)).app (DtA.one (.tup (kv.sqT (SqT.of upd_same)) (.cons (kv.dt ((dv5.bu k5 bu6).ex e7) ?_) (.cons (.bl _) .nil))))
    have z := noL_c ⟨mulL (-1, 1) ts, ti (pl c x) (-1, 1), true⟩
    simp only [cD, noL, noLA, Bool.and_true] at z
    exact z
  · rcases List.mem_append.mp hd with h | h
    · exact okc d h
    · rw [List.mem_singleton.mp h]
      exact ⟨tk5.mono (by decide), nz5, sub5⟩
theorem p10_5 (T : Txt K mg) {cdv : Value} {Ar : Around} {outer : List Env} {s : Shared} {H0 : Hp} {E : XK} (hr : Room 13 (Ar.deeper (envOfC "law" (defScope s_law) s.heap.objs.size T.law.f cdv))) (gd : Ar.guards = some []) {a D : Addr} : PS (cxOf CX0 P w K mg base ["_law_script", "_law_deck_here", "_law_turn", "_law_names_here", "_law_pairs", "_law_paper", "_law_sums", "_law_is_strict", "_law_k", "_law_pair_here", "_law_often", "_law_more", "_law_conditions", "_law_value_here", "_law_form", "_law_strict"] "law" (defScope s_law) T.law.f cdv Ar outer s H0 E).nox (kid 5 (kid 1 s_law)) (tr (Ga10 K T.C_Form a D) (Ga11 K T.C_Form a D)) := by
  have nd := sc_law.nd
  refine ps_tr (ps_set (i := 5) nd rfl (.inl rfl) (pe_op op_catA (pv 5) (pe_tup (pa_cons pe_int pa_nil)))) (fun DD σ G h0 hk => ?_)
  obtain ⟨x2, x6, x7, x8, x9, x10, x11, x12, x13, x14, x15, F, ns, L, vl, cs, p, js, rfl, k, hF, nF, l3, hn, un, hL, nL, nLF, hc, lc, okc, hp, lj, bj⟩ := h0
  have ljv : (js.map V.int).length = js.length := List.length_map ..
  walk_at "go"
  intro q nq
  have e1 := ex_new (o := .tup [.int 1]) nq
  walk_at "go"
  refine catA_ok (ys := [.int 1]) (sqT_ex e1 hp) (SqT.of upd_same) (by rw [ljv, sizeLine_eq]; simp only [List.length_cons, List.length_nil]; omega) fun p2 G2 e2 t2 => ?_
  have e := e1.trans e2
  have t2' : SqT K G2 p2 ((js ++ [1]).map V.int) := by
    rw [List.map_append]
    exact t2
  walk_at "go"
  exact hk _ _ ⟨_, _, _, _, _, _, _, _, _, _, _, F, ns, L, vl, cs, p2, js ++ [1], rfl, k.ex e, e _ _ hF, nF, l3, hn, un, e _ _ hL, nL, nLF, hc.ex e, lc, okc, t2', by rw [List.length_append]; exact lj, (fun j hj => by
    rcases List.mem_append.mp hj with h | h
    · exact bj j h
    · rw [List.mem_singleton.mp h]
      omega), by rw [List.length_append, List.length_cons]; omega⟩
end
end K10
set_option pp.maxSteps 600
set_option pp.deepTerms false
namespace K10
open PySem PySem.Spec PyProof.Rows L2 Qj
local macro_rules | `(tactic| walk_at "go") => `(tactic| repeat (first
  | (refine ⟨_, rfl, ?_⟩)
  | (refine ⟨_, _, rfl, rfl, ?_⟩)
  | (refine ⟨_, _, rfl, ?_⟩)
  | (refine ⟨_, _, _, _, rfl, rfl, SqL.of (by assumption), rfl, ?_⟩)
  | (refine ⟨_, _, _, _, rfl, rfl, SqL.of upd_same, rfl, ?_⟩)
  | (refine ⟨_, _, _, _, rfl, rfl, SqT.of (by assumption), rfl, ?_⟩)
  | (refine ⟨_, _, _, _, rfl, rfl, SqT.of upd_same, rfl, ?_⟩)
  | (refine ⟨_, _, _, _, rfl, rfl, (by assumption), rfl, ?_⟩)
  | (refine ⟨_, _, _, _, rfl, rfl, upd_same, rfl, ?_⟩)
  | (refine ⟨_, _, rfl, Or.inl (by assumption), ?_⟩)
  | (refine ⟨_, _, rfl, Or.inr (SqT.of (by assumption)), ?_⟩)
  | (refine ⟨_, _, rfl, Or.inr (SqT.of upd_same), ?_⟩)
  | (refine ⟨_, _, rfl, Or.inl (SqL.of (by assumption)), ?_⟩)
  | (refine ⟨_, _, rfl, Or.inr (by assumption : SqT _ _ _ _), ?_⟩)
  | (refine ⟨_, _, rfl, (by assumption : SqT _ _ _ _), rfl, ?_⟩)
  | (refine ⟨_, _, rfl, SqT.of upd_same, rfl, ?_⟩)
  | (refine ⟨_, _, rfl, SqT.of (by assumption), rfl, ?_⟩)
  | (refine ⟨_, _, rfl, Kn.int _, ?_⟩)
  | (refine ⟨_, _, rfl, (by assumption : Kn _ _ _), ?_⟩)
  | (refine iteNS rfl ?_)
  | (refine iteF ?_)
  | (refine iteT ?_)
  | (refine Or.inl ⟨_, rfl, ?_⟩)
  | (refine Or.inr ⟨_, rfl, ?_⟩)
  | (refine And.intro sz4 ?_)
  | (refine And.intro (by first | exact rfl | assumption | decide | (show (0 : Int) < _; decide) | exact wide_div (b := 63) (by assumption) (by omega) (by decide) (by decide) | exact wide_div (b := 63) (by decide) (by decide) (by decide) (by decide) | exact Or.inl ⟨by decide, by decide⟩ | exact Or.inr ⟨by decide, by decide⟩ | exact ⟨by decide, by decide, by decide⟩ | exact Or.inl ⟨by omega, by omega⟩ | exact Or.inr ⟨by omega, by omega⟩) ?_)))

section
variable {P : Program} {w : World} {K : PySem.W.Frag} {mg : Str → Option Value} {base : Heap}
theorem ok__law_papers (T : Txt K mg) : FnOk P w K mg base CX0 3 T._law_papers.f T._law_papers.fd ["_law_deck_here", "_law_pairs", "_law_paper"] (spPapers K) := by
  refine T._law_papers.F.ok sc__law_papers (fun vs H Q E h => ?_) (fun cdv A outer s H vs Q E hr h => ?_)
  · obtain ⟨D, L, p, xs, js, rfl, _⟩ := h
    rfl
  obtain ⟨D, L, p, xs, js, rfl, dk, hL, nLD, lx, hp, l0, l8, bj, q⟩ := h
  have nd := sc__law_papers.nd
  have dp : Dt K D H (.ref p) (.tuple (js.map .int)) := .tup hp (ints_dt js)
  have ljv : (js.map V.int).length = js.length := List.length_map ..
  have ljd : (js.map PyData.int).length = js.length := List.length_map ..
  refine ⟨_, (pss_cons (ps_set (i := 3) nd rfl (.inl rfl) (pe_call (ok__law_take T) (hr.mono (by decide)) (by rfl) T._law_take.g T._law_take.F.kp T._law_take.b .nil pass0 (pa_cons (pv 0) (pa_cons (pe_callB call_len_seq (by rfl) T.m_len (by decide +kernel) (pa_cons (pv 2) pa_nil)) pa_nil))))
      (pss_cons (ps_set (i := 4) nd rfl (.inl rfl) (pe_tup (pa_cons (pe_op op_add (pe_ix ix_tup (pv 2) (pv 3) (fun _ _ => rfl)) pe_int) (pa_cons (pe_op op_sub (pe_ix ix_tup (pv 2) (pv 3) (fun _ _ => rfl)) pe_int) (pa_cons (pe_un un_neg (pe_ix ix_tup (pv 2) (pv 3) (fun _ _ => rfl))) (pa_cons pe_bl (pa_cons pe_non (pa_cons (pe_callTy call_str_int (by rfl) T.m_str boot_str (pa_cons (pe_ix ix_tup (pv 2) (pv 3) (fun _ _ => rfl)) pa_nil)) (pa_cons (pe_tup (pa_cons (pe_ix ix_tup (pv 2) (pv 3) (fun _ _ => rfl)) (pa_cons pe_int pa_nil))) pa_nil)))))))))
      (pss_cons (ps_set (i := 6) nd rfl (.inl rfl) (pe_lst (pa_cons (pv 2) (pa_cons (pe_callTy call_tuple_of (by rfl) T.m_tuple boot_tuple (pa_cons (pe_lc (own := [("_law_one", 5)]) (g := gName 5) (tt := tYes) rfl nd (pi_tup (pv 2)) (blkOk_by (N := ["_law_deck_here", "_law_pairs", "_law_paper", "_law_slot", "_law_odd", "_law_one", "_law_found", "_law_pair_here"]) (sc := defScope s__law_papers) (by decide +kernel)) (fun _ _ _ _ _ => pg_name (i := 5) nd rfl (Or.inl rfl)) (fun _ _ _ _ _ => pts_nil) (fun _ _ _ _ _ => (pe_op op_mul pe_int (pv 5)))) pa_nil)) (pa_cons (pe_op op_catA (pv 2) (pe_tup (pa_cons pe_int pa_nil))) (pa_cons (pe_slice sl_tupA (pv 2) po_none (po_some (pe_un un_neg pe_int))) (pa_cons (pe_callTy call_list_of (by rfl) T.m_list boot_list (pa_cons (pv 2) pa_nil)) (pa_cons pe_non (pa_cons pe_str (pa_cons (pe_tup pa_nil) (pa_cons pe_dnewK pa_nil)))))))))))
      (pss_cons (ps_for PassesOwn.never rfl (pi_tup (pv 4)) (pg_name (i := 5) nd rfl (.inl rfl))
        (pss_one (ps_expr (pe_bm PySem.F.plainAttrs_list PySem.F.slot_list_append PySem.F.type_list_append mt_append (pv 6) (pa_cons (pe_op op_catA (pe_op op_catA (pe_slice sl_tupA (pv 2) po_none (po_some (pv 3))) (pe_tup (pa_cons (pv 5) pa_nil))) (pe_slice sl_tupA (pv 2) (po_some (pe_op op_add (pv 3) pe_int)) po_none)) pa_nil)))))
      (pss_cons (ps_expr (pe_bm PySem.F.plainAttrs_list PySem.F.slot_list_append PySem.F.type_list_append mt_append (pv 6) (pa_cons (pe_callTy call_tuple_of (by rfl) T.m_tuple boot_tuple (pa_cons (pe_op op_rep (pe_lst (pa_cons pe_int pa_nil)) (pe_callB call_len_seq (by rfl) T.m_len (by decide +kernel) (pa_cons (pv 2) pa_nil))) pa_nil)) pa_nil)))
      (pss_cons (ps_expr (pe_bm PySem.F.plainAttrs_list PySem.F.slot_list_append PySem.F.type_list_append mt_append (pv 6) (pa_cons (pe_callTy call_tuple_of (by rfl) T.m_tuple boot_tuple (pa_cons (pe_lc (own := [("_law_pair_here", 7)]) (g := gName 7) (tt := tYes) rfl nd (pi_list (pv 1)) (blkOk_by (N := ["_law_deck_here", "_law_pairs", "_law_paper", "_law_slot", "_law_odd", "_law_one", "_law_found", "_law_pair_here"]) (sc := defScope s__law_papers) (by decide +kernel)) (fun _ _ _ _ _ => pg_name (i := 7) nd rfl (Or.inl rfl)) (fun _ _ _ _ _ => pts_nil) (fun _ _ _ _ _ => (pe_call (ok__law_take T) (hr.mono (by decide)) (by rfl) T._law_take.g T._law_take.F.kp T._law_take.b .nil pass0 (pa_cons (pv 0) (pa_cons pe_int pa_nil))))) pa_nil)) pa_nil)))
      (pss_one (ps_ret (pv 6))))))))), ?_⟩
  walk_at "go"
  refine ⟨by rw [ljv]; omega, by rw [ljv]; omega, fun u H1 u0 u1 bu1 d1 => ?_⟩
  rw [ljv] at u1
  obtain ⟨k, rfl⟩ := Int.eq_ofNat_of_zero_le u0
  have k1 : k < js.length := by omega
  obtain ⟨a, ha⟩ : ∃ a, js[k]? = some a := ⟨_, List.getElem?_eq_getElem k1⟩
  have ba := bj a (List.mem_iff_getElem?.mpr ⟨k, ha⟩)
  have hp1 := sqT_bu dk bu1 hp
  have dp1 := dp.bu dk bu1
  have at1 : atI (js.map V.int) (k : Int) = some (.int a) := atI_nat (by rw [List.getElem?_map, ha]; rfl)
  walk_at "go"
  refine ⟨p, _, _, _, rfl, rfl, hp1, at1, ?_⟩
  walk_at "go"
  refine ⟨p, _, _, _, rfl, rfl, hp1, at1, ?_⟩
  walk_at "go"
  refine ⟨p, _, _, _, rfl, rfl, hp1, at1, ?_⟩
  walk_at "go"
  refine ⟨p, _, _, _, rfl, rfl, hp1, at1, ?_⟩
  walk_at "go"
  refine ⟨Nat.lt_of_le_of_lt (Nat.log2_le_self _) (by omega), ?_⟩
  walk_at "go"
  refine ⟨p, _, _, _, rfl, rfl, hp1, at1, ?_⟩
  walk_at "go"
  intro q1 nq1
  have f1 := ex_new (o := .tup [.int a, .int 1]) nq1
  walk_at "go"
  intro q2 nq2
  have f2 := ex_new (o := .tup [.int (a + 1), .int (a - 1), .int (-a), .bl true, .non, .str (toString a), .ref q1]) nq2
  have f12 := f1.trans f2
  have dodd : Dt K D (upd (upd H1 q1 (.tup [.int a, .int 1])) q2 (.tup [.int (a + 1), .int (a - 1), .int (-a), .bl true, .non, .str (toString a), .ref q1])) (.ref q2) (.tuple (oddD a)) := .tup (SqT.of upd_same) (.cons (.int _) (.cons (.int _) (.cons (.int _) (.cons (.bl _) (.cons .non (.cons (.str _) (.cons (.tup (SqT.of (f2 _ _ upd_same)) (.cons (.int _) (.cons (.int _) .nil))) .nil)))))))
  have d2 := d1.ex f12
  have hp2 := sqT_ex f12 hp1
  have dp2 := dp1.ex f12
  have b2 := bu1.trans (Bu.of f12)
  obtain ⟨H2, eH2⟩ : ∃ H2, upd (upd H1 q1 (.tup [.int a, .int 1])) q2 (.tup [.int (a + 1), .int (a - 1), .int (-a), .bl true, .non, .str (toString a), .ref q1]) = H2 := ⟨_, rfl⟩
  rw [eH2] at dodd d2 hp2 dp2 b2
  walk_at "go"
  rw [eH2]
  refine ⟨⟨_, hp2⟩, fun C nC => ?_⟩
  refine lc_it (walk_tup (xs := js.map V.int)) (fun i G => Evl.Ex H2 G ∧ G C = some (.lst (((js.take i).map fun j => 3 * j).map V.int))) ⟨ex_new nC, upd_same⟩ (fun i G _ z => sqT_ex z.1 hp2) ?_ ?_
  · rintro i v G G' hi ⟨e1, hC⟩ ⟨rfl, hv⟩
    rw [List.getElem?_map] at hv
    obtain ⟨j, hj, rfl⟩ := Option.map_eq_some_iff.mp hv
    have lt : (js.take i).length ≤ i := List.length_take_le ..
    have bjj := bj j (List.mem_iff_getElem?.mpr ⟨i, hj⟩)
    refine ⟨rfl, ?_⟩
    walk_at "go"
    refine ⟨_, hC, by rw [List.length_map, List.length_map, sizeLine_eq]; omega, ex_upd e1 nC, ?_⟩
    rw [upd_same, Qj.take_next hj, List.map_append, List.map_append]
    rfl
  rintro G ⟨e1, hC⟩
  rw [ljv, List.take_length] at hC
  walk_at "go"
  refine ⟨C, _, rfl, .inl ⟨SqL.of hC, fun pt npt => ?_⟩⟩
  have f3 := ex_new (o := .tup ((js.map fun j => 3 * j).map V.int)) npt
  have e3 := e1.trans f3
  have dt1 : Dt K D (upd G pt (.tup ((js.map fun j => 3 * j).map V.int))) (.ref pt) (.tuple ((js.map fun j => 3 * j).map .int)) := .tup (SqT.of upd_same) (ints_dt _)
  walk_at "go"
  intro pz npz
  have f4 := ex_new (o := .tup [.int 0]) npz
  have e4 := e3.trans f4
  walk_at "go"
  refine catA_dt (dp2.ex e4) (Dt.tup (SqT.of upd_same) (.cons (.int 0) .nil)) (by rw [ljd]; simp only [List.length_cons, List.length_nil]; omega) fun p5 H5 e5 dt2 => ?_
  have e45 := e4.trans e5
  walk_at "go"
  refine slButlast (dp2.ex e45) (by rw [ljd]; exact l0) fun p6 H6 dt3 e6 => ?_
  have e46 := e45.trans e6
  walk_at "go"
  refine ⟨p, _, rfl, .inr (sqT_ex e46 hp2), fun A nA => ?_⟩
  have f7 := ex_new (o := .lst (js.map V.int)) nA
  have e47 := e46.trans f7
  walk_at "go"
  intro p8 n8
  have f8 := ex_new (o := .tup []) n8
  walk_at "go"
  intro p9 n9
  have f9 := ex_new (o := .dK []) n9
  walk_at "go"
  intro M nM
  have e49 := e47.trans (f8.trans f9)
  have hA0 := (f8.trans f9) _ _ (upd_same (H := H6) (a := A) (o := .lst (js.map V.int)))
  have h80 := f9 _ _ (upd_same (H := upd H6 A (.lst (js.map V.int))) (a := p8) (o := .tup []))
  have h90 := upd_same (H := upd (upd H6 A (.lst (js.map V.int))) p8 (.tup [])) (a := p9) (o := .dK [])
  have g1 := dt1.ex ((f4.trans e5).trans (e6.trans (f7.trans (f8.trans f9))))
  have g2 := dt2.ex (e6.trans (f7.trans (f8.trans f9)))
  have g3 := dt3.ex (f7.trans (f8.trans f9))
  have nAD : A ≠ D := (d2.ex e46).ne nA
  obtain ⟨HB, eHB⟩ : ∃ HB, upd (upd (upd H6 A (.lst (js.map V.int))) p8 (.tup [])) p9 (.dK []) = HB := ⟨_, rfl⟩
  rw [eHB] at e49 hA0 h80 h90 g1 g2 g3 nM
  have dB := d2.ex e49
  have bB := b2.trans (Bu.of e49)
  have dpB := dp2.ex e49
  have nMD : M ≠ D := dB.ne nM
  have eM := ex_new (o := .lst [.ref p, .ref pt, .ref p5, .ref p6, .ref A, .non, .str "paper", .ref p8, .ref p9]) nM
  walk_at "go"
  rw [eHB]
  obtain ⟨_, os, eo, to, go⟩ := dodd.tupA
  cases eo
  have los := go.len
  have l7 : (oddD a).length = 7 := rfl
  refine ⟨⟨_, sqT_ex (e49.trans eM) to⟩, for_tup (xs := os) (fun i σ G => ∃ (y5 : Option V) (ws : List V) (es : List PyData), σ = [some (.ref D), some (.ref L), some (.ref p), some (.int (k : Int)), some (.ref q2), y5, some (.ref M), none] ∧ Evl.Ex HB G ∧ G M = some (.lst ([.ref p, .ref pt, .ref p5, .ref p6, .ref A, .non, .str "paper", .ref p8, .ref p9] ++ ws)) ∧ DtA K D G ws es ∧ noLA es = true ∧ (∀ d ∈ es, PapOk d) ∧ es.length = i) ?_ ?_ ?_ ?_⟩
  · exact ⟨_, [], [], rfl, eM, upd_same, .nil, rfl, (fun d h => nomatch h), rfl⟩
  · rintro i σ G hi ⟨y5, ws, es, rfl, eG, hM, gw, nw, pw, lw⟩
    exact sqT_ex (e49.trans eG) to
  · rintro i x σ G hx ⟨y5, ws, es, rfl, eG, hM, gw, nw, pw, lw⟩
    obtain ⟨d, hd, dv⟩ := go.at hx
    have hi7 := (List.getElem?_eq_some_iff.mp hd).1
    have lws := gw.len
    have od : shD d = true ∧ noL d = true ∧ ∀ i, d = .int i → i.natAbs < 2 ^ 5 := by
      have m := List.mem_iff_getElem?.mpr ⟨i, hd⟩
      simp only [oddD, List.mem_cons, List.not_mem_nil, or_false] at m
      rcases m with rfl | rfl | rfl | rfl | rfl | rfl | rfl
      · exact ⟨rfl, rfl, fun i e => by cases e; show (a + 1).natAbs < 32; omega⟩
      · exact ⟨rfl, rfl, fun i e => by cases e; show (a - 1).natAbs < 32; omega⟩
      · exact ⟨rfl, rfl, fun i e => by cases e; show (-a).natAbs < 32; omega⟩
      · exact ⟨rfl, rfl, fun i e => nomatch e⟩
      · exact ⟨rfl, rfl, fun i e => nomatch e⟩
      · refine ⟨?_, rfl, fun i e => nomatch e⟩
        have h2 := int_text_length_le10 (a := a) (k := 1) (by decide) (by omega)
        have h3 : (Str.ofString (toString a)).length ≤ 1000 := by
          rw [PySem.ofString_length]
          omega
        exact decide_eq_true h3
      · exact ⟨rfl, rfl, fun i e => nomatch e⟩
    have hk : k ≤ (js.map PyData.int).length := by rw [ljd]; omega
    have hk1 : k + 1 ≤ (js.map PyData.int).length := by rw [ljd]; omega
    walk_at "go"
    refine ⟨.inl ⟨rfl, _, SqL.of hM⟩, ?_⟩
    walk_at "go"
    refine slTo_dt (k := k) (dpB.ex eG) hk fun r1 G1 t1 e1 => ?_
    walk_at "go"
    intro r2 n2
    have e2 := ex_new (o := .tup [x]) n2
    have dx : Dt K D (upd G1 r2 (.tup [x])) (.ref r2) (.tuple [d]) := .tup (SqT.of upd_same) (.cons (dv.ex (e49.trans (eG.trans (e1.trans e2)))) .nil)
    walk_at "go"
    refine catA_dt (t1.ex e2) dx (by rw [List.length_take, ljd, List.length_cons, List.length_nil]; omega) fun r3 G3 e3 t3 => ?_
    have e13 := e1.trans (e2.trans e3)
    walk_at "go"
    show tNoPart _ _ _
    unfold tNoPart
    refine slFrom_dt (k := k + 1) (dpB.ex (eG.trans e13)) hk1 fun r4 G4 t4 e4 => ?_
    walk_at "go"
    refine catA_dt (t3.ex e4) t4 (by simp only [List.length_append, List.length_take, List.length_drop, ljd, List.length_cons, List.length_nil]; omega) fun r5 G5 e5 t5 => ?_
    have t5' : Dt K D G5 (.ref r5) (.tuple ((js.map PyData.int).take k ++ [d] ++ (js.map PyData.int).drop (k + 1))) := t5
    have e15 := e13.trans (e4.trans e5)
    have hM5 := e15 _ _ hM
    have kv := Kv.upd (o2 := .lst ([.ref p, .ref pt, .ref p5, .ref p6, .ref A, .non, .str "paper", .ref p8, .ref p9] ++ ws ++ [.ref r5])) hM5 rfl
    have nl5 : noL (.tuple ((js.map PyData.int).take k ++ [d] ++ (js.map PyData.int).drop (k + 1))) = true := by
      show noLA _ = true
      refine noLA_of fun y hy => ?_
      rcases List.mem_append.mp hy with h | h
      · rcases List.mem_append.mp h with h | h
        · obtain ⟨j, _, rfl⟩ := List.mem_map.mp (List.mem_of_mem_take h)
          rfl
        · rw [List.mem_singleton.mp h]
          exact od.2.1
      · obtain ⟨j, _, rfl⟩ := List.mem_map.mp (List.mem_of_mem_drop h)
        rfl
    have pap5 : PapOk (.tuple ((js.map PyData.int).take k ++ [d] ++ (js.map PyData.int).drop (k + 1))) := by
      refine papOk_tup (by simp only [List.length_append, List.length_take, List.length_drop, ljd, List.length_cons, List.length_nil]; omega) (fun y hy => ?_) fun i hi => ?_
      · rcases List.mem_append.mp hy with h | h
        · rcases List.mem_append.mp h with h | h
          · obtain ⟨j, _, rfl⟩ := List.mem_map.mp (List.mem_of_mem_take h)
            rfl
          · rw [List.mem_singleton.mp h]
            exact od.1
        · obtain ⟨j, _, rfl⟩ := List.mem_map.mp (List.mem_of_mem_drop h)
          rfl
      · have small : ∀ i, PyData.int i ∈ js.map PyData.int → i.natAbs < 2 ^ 5 := fun i h => by
          obtain ⟨j, hj, e⟩ := List.mem_map.mp h
          cases e
          have := bj _ hj
          show _ < 32
          omega
        rcases List.mem_append.mp hi with h | h
        · rcases List.mem_append.mp h with h | h
          · exact small i (List.mem_of_mem_take h)
          · exact od.2.2 i (List.mem_singleton.mp h).symm
        · exact small i (List.mem_of_mem_drop h)
    walk_at "go"
    refine ⟨M, _, _, rfl, rfl, hM5, by simp only [List.length_append, List.length_cons, List.length_nil, sizeLine_eq]; omega, ?_⟩
    refine ⟨_, ws ++ [.ref r5], es ++ [.tuple ((js.map PyData.int).take k ++ [d] ++ (js.map PyData.int).drop (k + 1))], rfl, ex_upd (eG.trans e15) nM, by rw [upd_same, List.append_assoc], (kv.dtA (gw.ex e15) nw).app (DtA.one (kv.dt t5' nl5)), noLA_of fun y hy => ?_, fun y hy => ?_, by rw [List.length_append, lw]; rfl⟩
    · rcases List.mem_append.mp hy with h | h
      · exact noLA_mem nw y h
      · rw [List.mem_singleton.mp h]
        exact nl5
    · rcases List.mem_append.mp hy with h | h
      · exact pw y h
      · rw [List.mem_singleton.mp h]
        exact pap5
  rintro σ G ⟨y5, ws, es, rfl, eG, hM, gw, nw, pw, lw⟩
  rw [los, l7] at lw
  have lws := gw.len
  walk_at "go"
  refine ⟨.inl ⟨rfl, _, SqL.of hM⟩, ?_⟩
  walk_at "go"
  intro r1 n1
  have e1 := ex_new (o := .lst [.int 0]) n1
  walk_at "go"
  have hp3 := sqT_ex (e49.trans (eG.trans e1)) hp2
  refine ⟨p, _, rfl, .inr hp3, ?_⟩
  rw [ljv]
  refine ⟨r1, ((js.length : Nat) : Int), [.int 0], rfl, rfl, upd_same, by omega, by omega, by rw [Int.toNat_natCast, sizeLine_eq]; simp only [List.length_cons, List.length_nil]; omega, fun r2 n2 => ?_⟩
  rw [Int.toNat_natCast, flat_rep, rep_ints]
  have e2 := ex_new (o := .lst ((List.replicate js.length 0).map V.int)) n2
  walk_at "go"
  refine ⟨r2, _, rfl, .inl ⟨SqL.of upd_same, fun r3 n3 => ?_⟩⟩
  have e3 := ex_new (o := .tup ((List.replicate js.length 0).map V.int)) n3
  have e13 := e1.trans (e2.trans e3)
  have hM3 := e13 _ _ hM
  walk_at "go"
  refine ⟨M, _, _, rfl, rfl, hM3, by simp only [List.length_append, List.length_cons, List.length_nil, sizeLine_eq]; omega, ?_⟩
  have nLM : L ≠ M := fun z => by
    have z0 := f12 _ _ (bu1 _ _ nLD hL)
    rw [eH2] at z0
    have z2 := e49 _ _ z0
    rw [z, nM] at z2
    cases z2
  have nAM : A ≠ M := fun z => by
    subst z
    rw [hA0] at nM
    cases nM
  have hLB : HB L = some (.lst xs) := by
    have z := f12 _ _ (bu1 _ _ nLD hL)
    rw [eH2] at z
    exact e49 _ _ z
  have kv3 := Kv.upd (o2 := .lst ([.ref p, .ref pt, .ref p5, .ref p6, .ref A, .non, .str "paper", .ref p8, .ref p9] ++ ws ++ [.ref r3])) hM3 rfl
  have t3 : Dt K D (upd (upd (upd (upd G r1 (.lst [.int 0])) r2 (.lst ((List.replicate js.length 0).map V.int))) r3 (.tup ((List.replicate js.length 0).map V.int))) M (.lst ([.ref p, .ref pt, .ref p5, .ref p6, .ref A, .non, .str "paper", .ref p8, .ref p9] ++ ws ++ [.ref r3]))) (.ref r3) (.tuple ((List.replicate js.length (0 : Int)).map .int)) := kv3.dt (.tup (SqT.of upd_same) (ints_dt _)) (noLA_ints _)
  have gw3 := kv3.dtA (gw.ex e13) nw
  have kp3 : ∀ b u, b ≠ D → b ≠ M → HB b = some u → (upd (upd (upd (upd G r1 (.lst [.int 0])) r2 (.lst ((List.replicate js.length 0).map V.int))) r3 (.tup ((List.replicate js.length 0).map V.int))) M (.lst ([.ref p, .ref pt, .ref p5, .ref p6, .ref A, .non, .str "paper", .ref p8, .ref p9] ++ ws ++ [.ref r3]))) b = some u := fun b u _ h2 h => by
    rw [upd_ne h2]
    exact e13 _ _ (eG _ _ h)
  have d3 : DeckAt (upd (upd (upd (upd G r1 (.lst [.int 0])) r2 (.lst ((List.replicate js.length 0).map V.int))) r3 (.tup ((List.replicate js.length 0).map V.int))) M (.lst ([.ref p, .ref pt, .ref p5, .ref p6, .ref A, .non, .str "paper", .ref p8, .ref p9] ++ ws ++ [.ref r3]))) D := Bt.deck (L := M) (fun b u h e => by rw [upd_ne h]; exact e) nMD ((dB.ex eG).ex e13)
  have hMc : (upd (upd (upd (upd G r1 (.lst [.int 0])) r2 (.lst ((List.replicate js.length 0).map V.int))) r3 (.tup ((List.replicate js.length 0).map V.int))) M (.lst ([.ref p, .ref pt, .ref p5, .ref p6, .ref A, .non, .str "paper", .ref p8, .ref p9] ++ ws ++ [.ref r3]))) M = some (.lst ([.ref p, .ref pt, .ref p5, .ref p6, .ref A, .non, .str "paper", .ref p8, .ref p9] ++ ws ++ [.ref r3])) := upd_same
  obtain ⟨Hc, eHc⟩ : ∃ Hc, (upd (upd (upd (upd G r1 (.lst [.int 0])) r2 (.lst ((List.replicate js.length 0).map V.int))) r3 (.tup ((List.replicate js.length 0).map V.int))) M (.lst ([.ref p, .ref pt, .ref p5, .ref p6, .ref A, .non, .str "paper", .ref p8, .ref p9] ++ ws ++ [.ref r3]))) = Hc := ⟨_, rfl⟩
  rw [eHc] at t3 gw3 kp3 d3 hMc ⊢
  walk_at "go"
  refine ⟨.inl ⟨rfl, _, SqL.of hMc⟩, ?_⟩
  walk_at "go"
  have hLc := kp3 _ _ nLD nLM hLB
  refine ⟨⟨_, SqL.of hLc⟩, fun C2 nC2 => ?_⟩
  have nC2D : C2 ≠ D := d3.ne nC2
  have nC2M : C2 ≠ M := fun z => by subst z; rw [hMc] at nC2; cases nC2
  refine lc_it (walk_list (xs := xs)) (fun i G => DeckAt G D ∧ Bu D Hc G ∧ ∃ zs : List Int, G C2 = some (.lst (zs.map V.int)) ∧ zs.length = i ∧ ∀ z ∈ zs, 0 ≤ z ∧ z < 3) ⟨d3.ex (ex_new nC2), Bu.new nC2, [], upd_same, rfl, fun _ h => nomatch h⟩ (fun i G _ g => SqL.of (g.2.1 _ _ nLD hLc)) ?_ ?_
  · rintro i v G2 G3 hi ⟨d4, b4, zs, hC4, lz, bz⟩ ⟨rfl, hv⟩
    refine ⟨rfl, ?_⟩
    walk_at "go"
    intro u G5 u0 u1 b5 d5
    have hC5 := b5 _ _ nC2D hC4
    refine ⟨_, hC5, by rw [List.length_map, sizeLine_eq]; omega, Bt.deck (L := C2) (fun b u h e => by rw [upd_ne h]; exact e) nC2D d5, fun b o nb hb => ?_, zs ++ [u], by rw [upd_same, List.map_append]; rfl, by rw [List.length_append, lz]; rfl, fun z hz => ?_⟩
    · rw [upd_ne (fun z => by subst z; rw [nC2] at hb; cases hb)]
      exact b5 _ _ nb (b4 _ _ nb hb)
    · rcases List.mem_append.mp hz with h | h
      · exact bz z h
      · rw [List.mem_singleton.mp h]
        exact ⟨u0, u1⟩
  rintro G2 ⟨d4, b4, zs, hC4, lz, bz⟩
  walk_at "go"
  refine ⟨C2, _, rfl, .inl ⟨SqL.of hC4, fun r9 n9 => ?_⟩⟩
  have e9 := ex_new (o := .tup (zs.map V.int)) n9
  have hM9 := e9 _ _ (b4 _ _ nMD hMc)
  have kv9 := Kv.upd (o2 := .lst ([.ref p, .ref pt, .ref p5, .ref p6, .ref A, .non, .str "paper", .ref p8, .ref p9] ++ ws ++ [.ref r3] ++ [.ref r9])) hM9 rfl
  have kvc : Kv Hc (upd (upd G2 r9 (.tup (zs.map V.int))) M (.lst ([.ref p, .ref pt, .ref p5, .ref p6, .ref A, .non, .str "paper", .ref p8, .ref p9] ++ ws ++ [.ref r3] ++ [.ref r9]))) := ((Kv.bu d3 b4).trans (Kv.ex e9)).trans kv9
  have kp9 : ∀ b u, b ≠ D → b ≠ M → HB b = some u → (upd (upd G2 r9 (.tup (zs.map V.int))) M (.lst ([.ref p, .ref pt, .ref p5, .ref p6, .ref A, .non, .str "paper", .ref p8, .ref p9] ++ ws ++ [.ref r3] ++ [.ref r9]))) b = some u := fun b u h1 h2 h => by
    rw [upd_ne h2]
    exact e9 _ _ (b4 _ _ h1 (kp3 b u h1 h2 h))
  have kvB : Kv HB (upd (upd G2 r9 (.tup (zs.map V.int))) M (.lst ([.ref p, .ref pt, .ref p5, .ref p6, .ref A, .non, .str "paper", .ref p8, .ref p9] ++ ws ++ [.ref r3] ++ [.ref r9]))) := fun b u i h => kp9 b u (fun z => by
    obtain ⟨g, m, n, hD, _⟩ := dB
    subst z
    rw [hD] at h
    cases h
    cases i) (fun z => by
    subst z
    rw [nM] at h
    cases h) h
  walk_at "go"
  refine ⟨M, _, _, rfl, rfl, hM9, by simp only [List.length_append, List.length_cons, List.length_nil, sizeLine_eq]; omega, ?_⟩
  walk_at "go"
  refine q M _ ([.tuple (js.map .int), .tuple ((js.map fun j => 3 * j).map .int), .tuple (js.map .int ++ [.int 0]), .tuple ((js.map .int).take ((js.map PyData.int).length - 1)), .list (js.map .int), .none, .str "paper", .tuple [], .dict []] ++ es ++ [.tuple ((List.replicate js.length (0 : Int)).map .int)] ++ [.tuple (zs.map .int)]) _ upd_same ?_ ?_ ?_ ?_ ?_
  · have n9D : p9 ≠ D := dB.dk_ne h90
    have n9M : p9 ≠ M := fun z => by
      rw [z, nM] at h90
      cases h90
    have l2 : noL (.tuple (js.map .int ++ [.int 0])) = true := by
      show noLA _ = true
      refine noLA_of fun y hy => ?_
      rcases List.mem_append.mp hy with h | h
      · obtain ⟨j, _, rfl⟩ := List.mem_map.mp h
        rfl
      · rw [List.mem_singleton.mp h]
        rfl
    have l3 : noL (.tuple ((js.map .int).take ((js.map PyData.int).length - 1))) = true := by
      show noLA _ = true
      refine noLA_of fun y hy => ?_
      obtain ⟨j, _, rfl⟩ := List.mem_map.mp (List.mem_of_mem_take hy)
      rfl
    have k0 := kvB.dt dpB (noLA_ints js)
    have k1 := kvB.dt g1 (noLA_ints _)
    have k2 := kvB.dt g2 l2
    have k3 := kvB.dt g3 l3
    have kA := kp9 _ _ nAD nAM hA0
    have k8 := kvB.sqT (SqT.of (K := K) h80)
    have k9 := kp9 _ _ n9D n9M h90
    have kw := kvc.dtA gw3 nw
    have kr := kvc.dt t3 (noLA_ints _)
    have k10 := kv9.sqT (SqT.of (K := K) (upd_same (H := G2) (a := r9) (o := .tup (zs.map V.int))))
    exact ((DtA.app (.cons k0 (.cons k1 (.cons k2 (.cons k3 (.cons (.lst nAD kA (ints_dt _)) (.cons .non (.cons (.str _) (.cons (.tup k8 .nil) (.cons (.dic k9) .nil))))))))) kw).app (DtA.one kr)).app (DtA.one (.tup k10 (ints_dt _)))
  · have b32 : ∀ j ∈ js, j.natAbs < 2 ^ 5 := fun j hj => by
      have := bj j hj
      show _ < 32
      omega
    have allsh : ∀ y ∈ js.map PyData.int, shD y = true := fun y hy => by
      obtain ⟨j, _, rfl⟩ := List.mem_map.mp hy
      rfl
    have small : ∀ i, PyData.int i ∈ js.map PyData.int → i.natAbs < 2 ^ 5 := fun i h => by
      obtain ⟨j, hj, e⟩ := List.mem_map.mp h
      cases e
      exact b32 _ hj
    intro y hy
    rcases List.mem_append.mp hy with hy | hy
    · rcases List.mem_append.mp hy with hy | hy
      · rcases List.mem_append.mp hy with hy | hy
        · simp only [List.mem_cons, List.not_mem_nil, or_false] at hy
          rcases hy with rfl | rfl | rfl | rfl | rfl | rfl | rfl | rfl | rfl
          · exact papOk_ints (by omega) b32
          · refine papOk_ints (by rw [List.length_map]; omega) fun j hj => ?_
            obtain ⟨i, hi, rfl⟩ := List.mem_map.mp hj
            have := bj i hi
            show _ < 32
            omega
          · refine papOk_tup (by rw [List.length_append, ljd, List.length_cons, List.length_nil]; omega) (fun y hy => ?_) fun i hi => ?_
            · rcases List.mem_append.mp hy with h | h
              · exact allsh y h
              · rw [List.mem_singleton.mp h]
                rfl
            · rcases List.mem_append.mp hi with h | h
              · exact small i h
              · cases List.mem_singleton.mp h
                decide
          · exact papOk_tup (by rw [List.length_take, ljd]; omega) (fun y hy => allsh y (List.mem_of_mem_take hy)) fun i hi => small i (List.mem_of_mem_take hi)
          · exact papOk_of (shA_all.mpr allsh) fun _ e => nomatch e
          · exact papOk_of rfl fun _ e => nomatch e
          · exact papOk_of (by decide) fun _ e => nomatch e
          · exact papOk_ints (js := []) (by decide) fun _ h => nomatch h
          · exact papOk_of rfl fun _ e => nomatch e
        · exact pw y hy
      · rw [List.mem_singleton.mp hy]
        exact papOk_ints (by rw [List.length_replicate]; omega) fun j hj => by rw [(List.mem_replicate.mp hj).2]; decide
    · rw [List.mem_singleton.mp hy]
      refine papOk_ints (by omega) fun j hj => ?_
      have := bz j hj
      show _ < 32
      omega
  · simp only [List.length_append, List.length_cons, List.length_nil]
    omega
  · intro b o nb hb
    have z := bB b o nb hb
    refine kp9 b o nb (fun y => ?_) z
    rw [y, nM] at z
    cases z
  · exact Bt.deck (L := M) (fun b u h e => by rw [upd_ne h]; exact e) nMD (d4.ex e9)
end
end K10
set_option pp.maxSteps 600
set_option pp.deepTerms false
namespace K10
open PySem PySem.Spec PyProof.Rows L2 Qj
local macro_rules | `(tactic| walk_at "go") => `(tactic| repeat (first
  | (refine ⟨_, rfl, ?_⟩)
  | (refine ⟨_, _, rfl, rfl, ?_⟩)
  | (refine ⟨_, _, rfl, ?_⟩)
  | (refine ⟨_, _, _, _, rfl, rfl, SqL.of (by assumption), rfl, ?_⟩)
  | (refine ⟨_, _, _, _, rfl, rfl, SqL.of upd_same, rfl, ?_⟩)
  | (refine ⟨_, _, _, _, rfl, rfl, SqT.of (by assumption), rfl, ?_⟩)
  | (refine ⟨_, _, _, _, rfl, rfl, SqT.of upd_same, rfl, ?_⟩)
  | (refine ⟨_, _, _, _, rfl, rfl, (by assumption), rfl, ?_⟩)
  | (refine ⟨_, _, _, _, rfl, rfl, upd_same, rfl, ?_⟩)
  | (refine ⟨_, _, rfl, Or.inl (by assumption), ?_⟩)
  | (refine ⟨_, _, rfl, Or.inr (SqT.of (by assumption)), ?_⟩)
  | (refine ⟨_, _, rfl, Or.inr (SqT.of upd_same), ?_⟩)
  | (refine ⟨_, _, rfl, Or.inl (SqL.of (by assumption)), ?_⟩)
  | (refine ⟨_, _, rfl, Or.inr (by assumption : SqT _ _ _ _), ?_⟩)
  | (refine ⟨_, _, rfl, (by assumption : SqT _ _ _ _), rfl, ?_⟩)
  | (refine ⟨_, _, rfl, SqT.of upd_same, rfl, ?_⟩)
  | (refine ⟨_, _, rfl, SqT.of (by assumption), rfl, ?_⟩)
  | (refine ⟨_, _, rfl, Kn.int _, ?_⟩)
  | (refine ⟨_, _, rfl, (by assumption : Kn _ _ _), ?_⟩)
  | (refine iteNS rfl ?_)
  | (refine iteF ?_)
  | (refine iteT ?_)
  | (refine Or.inl ⟨_, rfl, ?_⟩)
  | (refine Or.inr ⟨_, rfl, ?_⟩)
  | (refine And.intro sz4 ?_)
  | (refine And.intro (by first | exact rfl | assumption | decide | (show (0 : Int) < _; decide) | exact wide_div (b := 63) (by assumption) (by omega) (by decide) (by decide) | exact wide_div (b := 63) (by decide) (by decide) (by decide) (by decide) | exact Or.inl ⟨by decide, by decide⟩ | exact Or.inr ⟨by decide, by decide⟩ | exact ⟨by decide, by decide, by decide⟩ | exact Or.inl ⟨by omega, by omega⟩ | exact Or.inr ⟨by omega, by omega⟩) ?_)))

section
variable {P : Program} {w : World} {K : PySem.W.Frag} {mg : Str → Option Value} {base : Heap}
theorem p10_6 (T : Txt K mg) {cdv : Value} {Ar : Around} {outer : List Env} {s : Shared} {H0 : Hp} {E : XK} (hr : Room 13 (Ar.deeper (envOfC "law" (defScope s_law) s.heap.objs.size T.law.f cdv))) (gd : Ar.guards = some []) {a D : Addr} : PS (cxOf CX0 P w K mg base ["_law_script", "_law_deck_here", "_law_turn", "_law_names_here", "_law_pairs", "_law_paper", "_law_sums", "_law_is_strict", "_law_k", "_law_pair_here", "_law_often", "_law_more", "_law_conditions", "_law_value_here", "_law_form", "_law_strict"] "law" (defScope s_law) T.law.f cdv Ar outer s H0 E).nox (kid 6 (kid 1 s_law)) (tr (Ga11 K T.C_Form a D) (Ga12 K T.C_Form a D)) := by
  have nd := sc_law.nd
  refine ps_tr (ps_set (i := 12) nd rfl (.inl rfl) (pe_callTy call_tuple_of (by rfl) T.m_tuple boot_tuple (pa_cons (pe_lc (own := [("_law_form", 14), ("_law_strict", 15)]) (tt := tYes) rfl nd (pi_list (pv 4)) (blkOk_by (N := ["_law_script", "_law_deck_here", "_law_turn", "_law_names_here", "_law_pairs", "_law_paper", "_law_sums", "_law_is_strict", "_law_k", "_law_pair_here", "_law_often", "_law_more", "_law_conditions", "_law_value_here", "_law_form", "_law_strict"]) (sc := defScope s_law) (by decide +kernel)) (fun _ _ _ _ _ => pg_tupK (n := 2) K rfl rfl (pgs_cons (pg_name (i := 14) nd rfl (Or.inl rfl)) (pgs_cons (pg_name (i := 15) nd rfl (Or.inl rfl)) pgs_nil))) (fun _ _ _ _ _ => pts_nil) (fun _ _ _ _ _ => (pe_tup (pa_cons (pe_make (E := E0) T.mk_Form (ok_Form___init__ T) (hr.mono (by decide)) (by rfl) T.g_Form T.Form___init__.b3 .nil passX0 (pa_cons (pe_ix (ix_tupK K rfl) (pv 14) pe_int (fun _ _ => rfl)) (pa_cons (pe_ix (ix_tupK K rfl) (pv 14) pe_int (fun _ _ => rfl)) pa_nil))) (pa_cons (pv 15) pa_nil))))) pa_nil))) (fun DD σ G h0 hk => ?_)
  obtain ⟨x2, x6, x7, x8, x9, x10, x11, x12, x13, x14, x15, F, ns, L, vl, cs, p, js, rfl, k, hF, nF, l3, hn, un, hL, nL, nLF, hc, lc, okc, hp, lj, bj, l0⟩ := h0
  have lv := hc.len
  rw [List.length_map] at lv
  walk_at "go"
  refine ⟨⟨_, SqL.of hL⟩, fun C nC => ?_⟩
  refine lc_it (walk_list (xs := vl)) (fun i G2 => Evl.Ex G G2 ∧ ∃ ws ds, G2 C = some (.lst ws) ∧ Paired (CondV K T.C_Form D 62 G2) ws ds ∧ Paired Mk (cs.take i) ds) ⟨ex_new nC, [], [], upd_same, .nil, .nil⟩ (fun i G2 _ g => SqL.of (g.1 _ _ hL)) ?_ ?_
  · rintro i v G2 G3 hi ⟨e2, ws, ds, hC, pw, pm⟩ ⟨rfl, hv⟩
    obtain ⟨d, hd, dv⟩ := hc.at hv
    rw [List.getElem?_map] at hd
    obtain ⟨c, hcc, rfl⟩ := Option.map_eq_some_iff.mp hd
    have mc := List.mem_iff_getElem?.mpr ⟨i, hcc⟩
    have ok := okc c mc
    obtain ⟨pq, ys, rfl, ty, gy⟩ := (dv.ex e2).tupA
    obtain ⟨w1, w2, rfl, g1, g2⟩ := two_at gy
    cases g2
    obtain ⟨pf, zs, rfl, tz, gz⟩ := g1.tupA
    obtain ⟨u1, u2, rfl, h1, h2⟩ := two_at gz
    have lw := Paired.length pw
    have lm := Paired.length pm
    have lt : (cs.take i).length ≤ i := List.length_take_le ..
    refine ⟨pq, _, rfl, ty, rfl, ?_⟩
    walk_at "go"
    intro r dx nr ndx nrd
    have e3 := ex_new (o := .own r) ndx
    have e4 := ex_new (o := .ins T.C_Form dx []) (show (upd G3 dx (.own r)) r = none by rw [upd_ne (Ne.symm nrd)]; exact nr)
    have e34 := e3.trans e4
    refine ⟨D, r, dx, u1, u2, 62, c.ts, c.f, rfl, upd_same, h1.ex e34, h2.ex e34, ok.t, fun us H1 pa ra kp1 fx1 => ⟨rfl, ?_⟩⟩
    have ex1 : Evl.Ex G3 H1 := fun b o hb => kp1 b o (fun z => by subst z; rw [nr] at hb; cases hb) (e34 _ _ hb)
    walk_at "go"
    intro p4 np4
    have e5 := ex_new (o := .tup [.ref r, .bl c.b]) np4
    have hC5 := (ex1.trans e5) _ _ hC
    have kv := Kv.upd (o2 := .lst (ws ++ [V.ref p4])) hC5 rfl
    have ek := keptT_nz ok.z
    have kc : Kv G3 (upd (upd H1 p4 (.tup [.ref r, .bl c.b])) C (.lst (ws ++ [V.ref p4]))) := (Kv.ex (ex1.trans e5)).trans kv
    walk_at "go"
    refine ⟨_, hC5, by rw [sizeLine_eq]; omega, ex_upd (e2.trans (ex1.trans e5)) nC, ws ++ [.ref p4], ds ++ [⟨us, c.f, c.b⟩], upd_same, ?_, ?_⟩
    · exact Paired.snoc (Paired.mapP pw fun _ _ ⟨q, r, z1, z2, z3, z4⟩ => ⟨q, r, z1, kc.sqT z2, kc.fx z3, z4⟩) ⟨p4, r, rfl, kv.sqT (SqT.of upd_same), kv.fx (fx1.ex e5), Frm.of ok.t pa ra⟩
    · rw [Qj.take_next hcc]
      refine Paired.snoc pm ⟨rfl, rfl, ?_⟩
      rw [ek] at pa
      exact pa
  rintro G2 ⟨e2, ws, ds, hC, pw, pm⟩
  rw [lv, List.take_length] at pm
  walk_at "go"
  refine ⟨C, _, rfl, .inl ⟨SqL.of hC, fun p np => ?_⟩⟩
  have e3 := ex_new (o := .tup ws) np
  have e := e2.trans e3
  have hp9 := sqT_ex e hp
  have hp : CondAt K T.C_Form D 62 (upd G2 p (.tup ws)) p ds := ⟨ws, SqT.of upd_same, Paired.mapP pw fun _ _ z => z.ex e3⟩
  walk_at "go"
  exact hk _ _ ⟨_, _, _, _, _, _, _, _, _, _, _, _, _, _, _, _, _, _, _, rfl, (k.ex e), (e _ _ hF), nF, l3, hn, un, (e _ _ hL), nL, nLF, (hc.ex e), lc, okc, hp9, lj, bj, l0, hp, pm⟩
theorem p10_7 (T : Txt K mg) {cdv : Value} {Ar : Around} {outer : List Env} {s : Shared} {H0 : Hp} {E : XK} (hr : Room 13 (Ar.deeper (envOfC "law" (defScope s_law) s.heap.objs.size T.law.f cdv))) (gd : Ar.guards = some []) {a D : Addr} : PS (cxOf CX0 P w K mg base ["_law_script", "_law_deck_here", "_law_turn", "_law_names_here", "_law_pairs", "_law_paper", "_law_sums", "_law_is_strict", "_law_k", "_law_pair_here", "_law_often", "_law_more", "_law_conditions", "_law_value_here", "_law_form", "_law_strict"] "law" (defScope s_law) T.law.f cdv Ar outer s H0 E).nox (kid 7 (kid 1 s_law)) (tr (Ga12 K T.C_Form a D) (Ga0 K T.C_Form a D)) := by
  have nd := sc_law.nd
  refine ps_tr (ps_for PassesOwn.never rfl (pi_list (pe_call (ok__law_papers T) (hr.mono (by decide)) (by rfl) T._law_papers.g T._law_papers.F.kp T._law_papers.b .nil pass0 (pa_cons (pv 1) (pa_cons (pv 4) (pa_cons (pv 5) pa_nil))))) (pg_name (i := 13) nd rfl (.inl rfl))
        (pss_one (ps_if (pt_cmpR op_ne (pe_callB (cr_repT K (by exact rfl) (by exact gd) (by exact hr.units)) (by rfl) T.m_repr (by decide +kernel) (pa_cons (pe_call (ok_never_holds T) (hr.mono (by decide)) (by rfl) T.never_holds.g T.never_holds.F.kp T.never_holds.b .nil pass0 (pa_cons (pv 12) (pa_cons (pv 13) pa_nil))) pa_nil)) (pe_callB (cr_repT K (by exact rfl) (by exact gd) (by exact hr.units)) (by rfl) T.m_repr (by decide +kernel) (pa_cons (pe_call (ok__law_adds_up T) (hr.mono (by decide)) (by rfl) T._law_adds_up.g T._law_adds_up.F.kp T._law_adds_up.b .nil pass0 (pa_cons (pv 4) (pa_cons (pv 13) pa_nil))) pa_nil)) (nomark _))
          (pss_one (ps_ret pe_bl))
          pss_nil))) (fun DD σ G h0 hk => ?_)
  obtain ⟨x2, x6, x7, x8, x9, x10, x11, x13, x14, x15, F, ns, L, vl, cs, p, js, pc, ds, rfl, k, hF, nF, l3, hn, un, hL, nL, nLF, hc, lc, okc, hp, lj, bj, l0, hd, mk⟩ := h0
  have lm := Paired.length mk
  have lv := hc.len
  rw [List.length_map] at lv
  have sz : ∀ b : Bool, Szd (.bool b) 16000 60 := fun b => (szd_okd okd_bl).mono (by decide) (by decide)
  have ndc : ∀ b : Bool, (PyData.bool b).hasDict = true → noLs (.bool b) = true := fun b z => by simp [PyData.hasDict] at z
  have subd : ∀ d ∈ ds, ∀ t ∈ d.ts, t.1 ∈ ns := fun d hd2 t ht => by
    have z : t.1 ∈ nmsC ds := nmsC_mem.mpr ⟨d, hd2, t, ht, rfl⟩
    obtain ⟨c, hcc, u, hu, e⟩ := nmsC_mem.mp ((mk_nms mk _).mp z)
    exact e ▸ (okc c hcc).i u hu
  walk_at "go"
  refine ⟨D, L, p, vl, js, rfl, k, hL, nL, by omega, hp, l0, by omega, bj, fun M vs es G1 hM de pe le bu k1 => ?_⟩
  have lde := de.len
  have hL1 := bu _ _ nL hL
  have hc1 := hc.bu k bu
  have hd1 := hd.bu k bu
  walk_at "go"
  refine ⟨⟨_, SqL.of hM⟩, for_list (xs := vs) (fun i σ G2 => ∃ (y13 : Option V), σ = [some (.ref a), some (.ref D), x2, some (.ref F), some (.ref L), some (.ref p), x6, x7, x8, x9, x10, x11, some (.ref pc), y13, x14, x15] ∧ Evl.Ex G1 G2) ?_ ?_ ?_ ?_⟩
  · exact ⟨_, rfl, .refl _⟩
  · rintro i σ G2 hi ⟨y13, rfl, e⟩
    exact SqL.of (e _ _ hM)
  · rintro i v σ G2 hx ⟨y13, rfl, e⟩
    obtain ⟨d, hde, dv⟩ := de.at hx
    have pd := pe d (List.mem_iff_getElem?.mpr ⟨i, hde⟩)
    walk_at "go"
    refine ⟨D, pc, v, d, ns, ds, rfl, hd1.ex e, by omega, subd, by omega, dv.ex e, pd, fun b1 G3 i1 e3 => ?_⟩
    walk_at "go"
    refine ⟨D, _, _, rfl, .bl _, sz _, ndc _, ?_⟩
    walk_at "go"
    refine ⟨D, L, v, d, ns, cs, vl, rfl, (e.trans e3) _ _ hL1, hc1.ex (e.trans e3), by omega, okc, by omega, dv.ex (e.trans e3), pd, fun b2 G4 i2 e4 => ?_⟩
    have same : b1 = b2 := by
      have z : (b1 = true ↔ b2 = true) := i1.trans ((mk_pap mk okc).trans i2.symm)
      cases b1 <;> cases b2 <;> simp at z <;> rfl
    walk_at "go"
    refine ⟨D, _, _, rfl, .bl _, sz _, ndc _, ?_⟩
    rw [same]
    generalize (PyData.bool b2).shown = tt
    walk_at "go"
    exact e.trans (e3.trans e4)
  · rintro σ G2 ⟨y13, rfl, e⟩
    exact hk _ _ ⟨_, _, _, _, _, _, _, _, _, _, _, _, _, _, rfl, k1.ex e⟩
end
end K10
set_option pp.maxSteps 600
set_option pp.deepTerms false
namespace K10
open PySem PySem.Spec PyProof.Rows L2 Qj
local macro_rules | `(tactic| walk_at "go") => `(tactic| repeat (first
  | (refine ⟨_, rfl, ?_⟩)
  | (refine ⟨_, _, rfl, rfl, ?_⟩)
  | (refine ⟨_, _, rfl, ?_⟩)
  | (refine ⟨_, _, _, _, rfl, rfl, SqL.of (by assumption), rfl, ?_⟩)
  | (refine ⟨_, _, _, _, rfl, rfl, SqL.of upd_same, rfl, ?_⟩)
  | (refine ⟨_, _, _, _, rfl, rfl, SqT.of (by assumption), rfl, ?_⟩)
  | (refine ⟨_, _, _, _, rfl, rfl, SqT.of upd_same, rfl, ?_⟩)
  | (refine ⟨_, _, _, _, rfl, rfl, (by assumption), rfl, ?_⟩)
  | (refine ⟨_, _, _, _, rfl, rfl, upd_same, rfl, ?_⟩)
  | (refine ⟨_, _, rfl, Or.inl (by assumption), ?_⟩)
  | (refine ⟨_, _, rfl, Or.inr (SqT.of (by assumption)), ?_⟩)
  | (refine ⟨_, _, rfl, Or.inr (SqT.of upd_same), ?_⟩)
  | (refine ⟨_, _, rfl, Or.inl (SqL.of (by assumption)), ?_⟩)
  | (refine ⟨_, _, rfl, Or.inr (by assumption : SqT _ _ _ _), ?_⟩)
  | (refine ⟨_, _, rfl, (by assumption : SqT _ _ _ _), rfl, ?_⟩)
  | (refine ⟨_, _, rfl, SqT.of upd_same, rfl, ?_⟩)
  | (refine ⟨_, _, rfl, SqT.of (by assumption), rfl, ?_⟩)
  | (refine ⟨_, _, rfl, Kn.int _, ?_⟩)
  | (refine ⟨_, _, rfl, (by assumption : Kn _ _ _), ?_⟩)
  | (refine iteNS rfl ?_)
  | (refine iteF ?_)
  | (refine iteT ?_)
  | (refine Or.inl ⟨_, rfl, ?_⟩)
  | (refine Or.inr ⟨_, rfl, ?_⟩)
  | (refine And.intro sz4 ?_)
  | (refine And.intro (by first | exact rfl | assumption | decide | (show (0 : Int) < _; decide) | exact wide_div (b := 63) (by assumption) (by omega) (by decide) (by decide) | exact wide_div (b := 63) (by decide) (by decide) (by decide) (by decide) | exact Or.inl ⟨by decide, by decide⟩ | exact Or.inr ⟨by decide, by decide⟩ | exact ⟨by decide, by decide, by decide⟩ | exact Or.inl ⟨by omega, by omega⟩ | exact Or.inr ⟨by omega, by omega⟩) ?_)))

section
variable {P : Program} {w : World} {K : PySem.W.Frag} {mg : Str → Option Value} {base : Heap}
def spLaw (K : PySem.W.Frag) : Sp := fun vs H Q _ => ∃ (a : Addr) (ns : List Int), vs = [.ref a] ∧ SqL K H a (ns.map V.int) ∧ ns.length ≤ 63 ∧ ∀ H', Q (.bl true) H'
theorem ok_law (T : Txt K mg) : FnG P w K mg base CX0 14 T.law.f T.law.fd ["_law_script"] (spLaw K) := by
  refine okG T.law.F sc_law (fun vs H Q E h => ?_) (fun cdv A outer s H vs Q E hr gd h => ?_)
  · obtain ⟨a, ns, rfl, _⟩ := h
    rfl
  obtain ⟨a, ns, rfl, hS, hl, q⟩ := h
  have nd := sc_law.nd
  refine ⟨_, PSs.nox (pss_cons (ps_set (i := 1) nd rfl (.inl rfl) (pe_call (ok__law_deck T) (hr.mono (by decide)) (by rfl) T._law_deck.g T._law_deck.F.kp T._law_deck.b .nil pass0 (pa_cons (pv 0) pa_nil)))
      (pss_cons (ps_for PassesOwn.never rfl (pi_range1 rfl T.m_range (pa_cons pe_int pa_nil)) (pg_name (i := 2) nd rfl (.inl rfl))
        (pss_cons (ps_trX fun (i : Addr × Addr) => p10_0 T hr gd (a := i.1) (D := i.2))
        (pss_cons (ps_trX fun (i : Addr × Addr) => p10_1 T hr gd (a := i.1) (D := i.2))
        (pss_cons (ps_trX fun (i : Addr × Addr) => p10_2 T hr gd (a := i.1) (D := i.2))
        (pss_cons (ps_trX fun (i : Addr × Addr) => p10_3 T hr gd (a := i.1) (D := i.2))
        (pss_cons (ps_trX fun (i : Addr × Addr) => p10_4 T hr gd (a := i.1) (D := i.2))
        (pss_cons (ps_trX fun (i : Addr × Addr) => p10_5 T hr gd (a := i.1) (D := i.2))
        (pss_cons (ps_trX fun (i : Addr × Addr) => p10_6 T hr gd (a := i.1) (D := i.2))
        (pss_one (ps_trX fun (i : Addr × Addr) => p10_7 T hr gd (a := i.1) (D := i.2)))))))))))
      (pss_one (ps_ret (pe_cmpR op_eq (pe_callB (cr_repT K (by exact rfl) (by exact gd) (by exact hr.units)) (by rfl) T.m_repr (by decide +kernel) (pa_cons (pe_call (ok_never_holds T) (hr.mono (by decide)) (by rfl) T.never_holds.g T.never_holds.F.kp T.never_holds.b .nil pass0 (pa_cons (pe_tup pa_nil) (pa_cons (pe_tup pa_nil) pa_nil))) pa_nil)) pe_str (nomark _)))))), ?_⟩
  walk_at "go"
  refine ⟨a, ns, rfl, hS, hl, fun D H1 nD e1 d1 => ?_⟩
  walk_at "go"
  refine for_range (n := 3) (fun i σ G => Ga0 K T.C_Form a D σ G) ⟨_, _, _, _, _, _, _, _, _, _, _, _, _, _, rfl, d1⟩ ?_ ?_
  · rintro i σ G hi h
    obtain ⟨x2, x3, x4, x5, x6, x7, x8, x9, x10, x11, x12, x13, x14, x15, rfl, k⟩ := h
    exact ⟨(a, D), ⟨_, _, _, _, _, _, _, _, _, _, _, _, _, _, rfl, k⟩, fun _ _ h1 => ⟨(a, D), h1, fun _ _ h2 => ⟨(a, D), h2, fun _ _ h3 => ⟨(a, D), h3, fun _ _ h4 => ⟨(a, D), h4, fun _ _ h5 => ⟨(a, D), h5, fun _ _ h6 => ⟨(a, D), h6, fun _ _ h7 => ⟨(a, D), h7, fun _ _ h8 => h8⟩⟩⟩⟩⟩⟩⟩⟩
  · rintro σ G h
    obtain ⟨x2, x3, x4, x5, x6, x7, x8, x9, x10, x11, x12, x13, x14, x15, rfl, k⟩ := h
    walk_at "go"
    intro p np
    have e1 := ex_new (o := .tup []) np
    walk_at "go"
    intro p2 np2
    have e2 := ex_new (o := .tup []) np2
    have hp : (upd (upd G p (.tup [])) p2 (.tup [])) p = some (.tup []) := e2 _ _ upd_same
    have sz : ∀ b : Bool, Szd (.bool b) 16000 60 := fun b => (szd_okd okd_bl).mono (by decide) (by decide)
    walk_at "go"
    refine ⟨D, p, .ref p2, .tuple [], [], [], rfl, ⟨[], SqT.of hp, .nil⟩, by decide, (fun c h => nomatch h), by decide, .tup (SqT.of upd_same) .nil, papOk_ints (js := []) (by decide) (fun _ h => nomatch h), fun b G2 ib e3 => ?_⟩
    have b0 : b = false := by
      cases b with
      | false => rfl
      | true =>
        obtain ⟨js, _, _, _, _, h⟩ := ib.mp rfl
        exfalso
        rw [List.zip_nil_left] at h
        rcases h with h | h
        · exact absurd h (by show ¬ ((0 : Rat) < 0); decide)
        · exact Bool.false_ne_true h.2
    subst b0
    walk_at "go"
    refine ⟨D, _, _, rfl, .bl _, sz _, fun z => by simp [PyData.hasDict] at z, ?_⟩
    walk_at "go"
    exact q _
end
end K10
namespace Qj
open PySem PySem.Spec PyProof.Rows L2
/-! ### the end of a law whose def is promised where no guard stands -/
section
variable {P : Program} {w : World} {K : PySem.W.Frag} {mg mb : Str → Option Value} {CX : CXT} {k : Nat} {fa a : Addr} {fd : FuncData} {x : Str} {sp : Sp} {s1 : Shared} {us : List Value} {ns : List Int}
/-- the law runs from an abstract heap in which at most the script is tracked -/
theorem lawG_core (kin : K.In s1.heap) (g0 : s1.heap.Ns mainGlobals mg) (bn : s1.heap.Ns builtinsNs mb) (bb : ∀ y : Str, y ≠ "__name__" → mb y = bootBuiltins y) (nl : s1.heap.NoLimit) (gz : s1.gens = #[])
    (at_a : s1.heap.get? a = some { cls := .type "list", data := .seq us.toArray }) (rm : Room k callerA)
    (F : ∀ base : Heap, K.In base → base.Ns mainGlobals mg → FnG P w K mg base CX k fa fd [x] sp) (bind : ∀ (s : Shared) (u : Value), BindsTo s fd ⟨[u], []⟩ [(x, u)])
    (H : Hp) (only : Only H) (hsp : sp [.ref a] H (fun v _ => v = .bl true) fun _ _ _ => False) (hok : HOk P w H s1.heap) (own : ∀ b, H b ≠ none → b = a) (outK : H a ≠ none → K.lookup a = none)
    (noX : ∀ e s2, CX [] H s1 (fun _ _ _ => False) e s2 → False) :
    codeAny (model P w) callerA (.call (.ref fa) ⟨[.ref a], []⟩) (fun r s2 => r = .ok (.ret (.bool true)) ∧ OldK s1.heap s2.heap ∧ s2.os = s1.os ∧ AllBare s2.gens) s1 := by
  have isA : ∀ {b : Addr} {u : HO}, H b = some u → b = a := fun {b u} z => own b (by rw [z]; exact fun c => by cases c)
  have untr : ∀ {b : Addr} {o : Obj} {es : Array DictEntry} {ep : Nat}, s1.heap.get? b = some o → o.data = .dict es ep → H b = none := by
    intro b o es ep z dd
    cases hb : H b with
    | none => rfl
    | some u =>
      cases isA hb
      rw [at_a] at z
      cases z
      cases (show Data.seq us.toArray _ = Data.dict es ep from dd)
  have nsT : ∀ {b : Addr} {m : Str → Option Value}, s1.heap.Ns b m → (hidT s1.heap H).Ns b m := by
    intro b m z
    obtain ⟨o, es, ep, z1, z2, z3⟩ := z
    exact ⟨o, es, ep, hidT_get z1 (untr z1 z2), z2, z3⟩
  have kinT : K.In (hidT s1.heap H) := by
    intro b o z
    refine hidT_get (kin b o z) ?_
    cases hb : H b with
    | none => rfl
    | some u =>
      cases isA hb
      rw [outK (by rw [hb]; exact fun c => by cases c)] at z
      cases z
  have md : Mod K mg (hidT s1.heap H) := by
    refine ⟨kinT, nsT g0, ⟨mb, nsT bn, bb⟩, ?_⟩
    obtain ⟨mc, c1, c2⟩ := nl
    exact ⟨mc, nsT c1, c2⟩
  have env : Env0 P w K mg (hidT s1.heap H) callerA [] s1 H := by
    refine ⟨rfl, md, fun b o z => of_hidT z, Nat.le_of_eq (hidT_size _ _), trivial, fun b hb => ?_, hok, .of_eq gz⟩
    cases (show b ∈ ([] : List Addr) from hb)
  have run := (F _ kinT (nsT g0)).go callerA [] s1 H ⟨[.ref a], []⟩ [.ref a] [.ref a] _ _ rm rfl env (bind s1 (.ref a)) (.cons rfl .nil) hsp
  refine codeAny_mono run (fun r s2 z => ?_)
  cases r with
  | error e => exact (noX e s2 z).elim
  | ok fl =>
    cases fl with
    | next => exact z.elim
    | brk => exact z.elim
    | cont => exact z.elim
    | ret u =>
      obtain ⟨v, G, os, bare, un, ok2, rv, q⟩ := z
      cases (show v = .bl true from q)
      cases (show u = Value.bool true from rv)
      refine ⟨rfl, OldK.of_keep (fun b o z => ?_), os, bare⟩
      cases hb : H b with
      | none => exact un.keep b o z hb (fun c => by cases (show b ∈ ([] : List Addr) from c)) (fun c => by cases c)
      | some u =>
        obtain c | ⟨ob, xs, c⟩ := only b
        · rw [hb] at c
          cases c
        · have c2 := un.frzs b ob _ c
          have p1 := (hok b _ c).1
          have p2 := (ok2 b _ c2).1
          rw [z] at p1
          cases p1
          exact p2
theorem lawG (kin : K.In s1.heap) (g0 : s1.heap.Ns mainGlobals mg) (bn : s1.heap.Ns builtinsNs mb) (bb : ∀ y : Str, y ≠ "__name__" → mb y = bootBuiltins y) (nl : s1.heap.NoLimit) (gz : s1.gens = #[])
    (at_a : s1.heap.get? a = some { cls := .type "list", data := .seq us.toArray }) (hints : IntsAre us ns) (hl : ns.length ≤ sizeLine) (rm : Room k callerA)
    (F : ∀ base : Heap, K.In base → base.Ns mainGlobals mg → FnG P w K mg base CX k fa fd [x] sp) (bind : ∀ (s : Shared) (u : Value), BindsTo s fd ⟨[u], []⟩ [(x, u)])
    (hsp : ∀ H : Hp, Only H → SqL K H a (ns.map V.int) → sp [.ref a] H (fun v _ => v = .bl true) fun _ _ _ => False) (noX : ∀ H e s2, CX [] H s1 (fun _ _ _ => False) e s2 → False) :
    codeAny (model P w) callerA (.call (.ref fa) ⟨[.ref a], []⟩) (fun r s2 => r = .ok (.ret (.bool true)) ∧ OldK s1.heap s2.heap ∧ s2.os = s1.os ∧ AllBare s2.gens) s1 := by
  have rel := vals_ints hints
  have lu := hints.length
  cases kl : K.lookup a with
  | some o =>
    have z := kin a o kl
    rw [at_a] at z
    cases z
    have only : Only (fun _ => none) := fun b => Or.inl rfl
    have sq : SqL K (fun _ => none) a (ns.map V.int) := Or.inr ⟨_, us.toArray, _, kl, rfl, rfl, rfl, by rw [List.size_toArray, lu]; exact hl, by simpa using rel⟩
    exact lawG_core kin g0 bn bb nl gz at_a rm F bind (fun _ => none) only (hsp _ only sq) (fun b u c => by cases c) (fun b c => absurd rfl c) (fun c => absurd rfl c) (noX _)
  | none =>
    let T : Hp := fun b => if b = a then some (.frz { cls := .type "list", data := .seq us.toArray } (.lst (ns.map V.int))) else none
    have atT : T a = some (.frz { cls := .type "list", data := .seq us.toArray } (.lst (ns.map V.int))) := if_pos rfl
    have offT : ∀ b, b ≠ a → T b = none := fun b h => if_neg h
    have only : Only T := by
      intro b
      by_cases h : b = a
      · subst h
        exact Or.inr ⟨_, _, atT⟩
      · exact Or.inl (offT b h)
    have sq : SqL K T a (ns.map V.int) := Or.inl (Or.inr ⟨_, atT⟩)
    refine lawG_core kin g0 bn bb nl gz at_a rm F bind T only (hsp _ only sq) (fun b u c => ?_) (fun b c => ?_) (fun _ => kl) (noX _)
    · by_cases h : b = a
      · subst h
        rw [atT] at c
        cases c
        exact ⟨at_a, by rw [List.length_map]; exact hl, us, _, rel, at_a⟩
      · rw [offT b h] at c
        cases c
    · by_cases h : b = a
      · exact h
      · exact absurd (offT b h) c
end
theorem walk_ofG {l : PySem.W.OpenLaw} {n k : Nat} {q : Program} {loose : List Str} {XP : (Str → Option Value) → Heap → Prop} {YP : World → Heap → Prop} {d : DefRec} {K : Params → PySem.W.Frag} {CX : CXT} {sp : PySem.W.Frag → Sp} {x : Str}
    (most : l.most = some n) (small : n ≤ sizeLine) (nodf : d.params.defaults = []) (rm : Room k callerA) (toK : ∀ (w : World) (h : Heap), YP w h → (K w.params).In h)
    (F : ∀ (w : World) (mg : Str → Option Value) (fa : Addr) (h : Heap), (K w.params).In h → h.Ns mainGlobals mg → mg d.name = some (.ref fa) →
      ∃ fd : FuncData, (∀ (s : Shared) (u : Value), BindsTo s fd ⟨[u], []⟩ [(x, u)]) ∧ ∀ base : Heap, (K w.params).In base → base.Ns mainGlobals mg → FnG l.prog w (K w.params) mg base CX k fa fd [x] (sp (K w.params)))
    (hsp : ∀ (K : PySem.W.Frag) (H : Hp) (a : Addr) (ns : List Int), ns.length ≤ n → Only H → SqL K H a (ns.map V.int) → sp K [.ref a] H (fun v _ => v = .bl true) fun _ _ _ => False)
    (noX : ∀ (H : Hp) (s : Shared) (e : Value) (s2 : Shared), CX [] H s (fun _ _ _ => False) e s2 → False) : PySem.W.WalkO q loose XP YP l.row.toRowW d [] (fun f vs => PySem.call f vs) := by
  refine Att.attach_call most nodf ?_
  intro w s0 s1 mg mb fa o pm cd doc a us ns G Y ho hd hcd hmg hobj hi2 hlen gz
  obtain ⟨fd, bind, hF⟩ := F w mg fa _ (toK w _ Y) G.T.g hmg
  exact lawG (toK w _ Y) G.T.g G.T.b G.T.builtins G.T.nolimit gz hobj hi2 (Nat.le_trans hlen small) rm hF bind (fun H h1 h2 => hsp _ H a ns hlen h1 h2) (fun H e s2 => noX H s1 e s2)
end Qj
namespace K10
open PySem PySem.Spec PyProof.Rows L2 Qj
noncomputable def mkTxt {K : PySem.W.Frag} {h : Heap} {mg : Str → Option Value} (X : K.In h) (G : h.Ns mainGlobals mg)
    {f_is_whole : Addr} {oc_is_whole kV_is_whole dc_is_whole pm_is_whole cd_is_whole ct_is_whole : Value} {od_is_whole an_is_whole : Option Addr} {sl_is_whole : Array (Option Value)}
    (a_is_whole : PySem.W.nsIn K mainGlobals "is_whole" = some (some (.ref f_is_whole)))
    (l_is_whole : K.lookup f_is_whole = some ⟨oc_is_whole, od_is_whole, .func (PySem.W.fnOf "is_whole" "is_whole" (defArgs s_is_whole) (defBody s_is_whole) (defScope s_is_whole) .none kV_is_whole dc_is_whole pm_is_whole an_is_whole cd_is_whole ct_is_whole), sl_is_whole⟩) (c_is_whole : PySem.W.codeIn K cd_is_whole "is_whole" = true) (k_is_whole : PySem.W.keepIn K (.ref f_is_whole) = true)
    {f_is_fraction : Addr} {oc_is_fraction kV_is_fraction dc_is_fraction pm_is_fraction cd_is_fraction ct_is_fraction : Value} {od_is_fraction an_is_fraction : Option Addr} {sl_is_fraction : Array (Option Value)}
    (a_is_fraction : PySem.W.nsIn K mainGlobals "is_fraction" = some (some (.ref f_is_fraction)))
    (l_is_fraction : K.lookup f_is_fraction = some ⟨oc_is_fraction, od_is_fraction, .func (PySem.W.fnOf "is_fraction" "is_fraction" (defArgs s_is_fraction) (defBody s_is_fraction) (defScope s_is_fraction) .none kV_is_fraction dc_is_fraction pm_is_fraction an_is_fraction cd_is_fraction ct_is_fraction), sl_is_fraction⟩) (c_is_fraction : PySem.W.codeIn K cd_is_fraction "is_fraction" = true) (k_is_fraction : PySem.W.keepIn K (.ref f_is_fraction) = true)
    {f__lowest : Addr} {oc__lowest kV__lowest dc__lowest pm__lowest cd__lowest ct__lowest : Value} {od__lowest an__lowest : Option Addr} {sl__lowest : Array (Option Value)}
    (a__lowest : PySem.W.nsIn K mainGlobals "_lowest" = some (some (.ref f__lowest)))
    (l__lowest : K.lookup f__lowest = some ⟨oc__lowest, od__lowest, .func (PySem.W.fnOf "_lowest" "_lowest" (defArgs s__lowest) (defBody s__lowest) (defScope s__lowest) .none kV__lowest dc__lowest pm__lowest an__lowest cd__lowest ct__lowest), sl__lowest⟩) (c__lowest : PySem.W.codeIn K cd__lowest "_lowest" = true) (k__lowest : PySem.W.keepIn K (.ref f__lowest) = true)
    {f_plus : Addr} {oc_plus kV_plus dc_plus pm_plus cd_plus ct_plus : Value} {od_plus an_plus : Option Addr} {sl_plus : Array (Option Value)}
    (a_plus : PySem.W.nsIn K mainGlobals "plus" = some (some (.ref f_plus)))
    (l_plus : K.lookup f_plus = some ⟨oc_plus, od_plus, .func (PySem.W.fnOf "plus" "plus" (defArgs s_plus) (defBody s_plus) (defScope s_plus) .none kV_plus dc_plus pm_plus an_plus cd_plus ct_plus), sl_plus⟩) (c_plus : PySem.W.codeIn K cd_plus "plus" = true) (k_plus : PySem.W.keepIn K (.ref f_plus) = true)
    {f_times : Addr} {oc_times kV_times dc_times pm_times cd_times ct_times : Value} {od_times an_times : Option Addr} {sl_times : Array (Option Value)}
    (a_times : PySem.W.nsIn K mainGlobals "times" = some (some (.ref f_times)))
    (l_times : K.lookup f_times = some ⟨oc_times, od_times, .func (PySem.W.fnOf "times" "times" (defArgs s_times) (defBody s_times) (defScope s_times) .none kV_times dc_times pm_times an_times cd_times ct_times), sl_times⟩) (c_times : PySem.W.codeIn K cd_times "times" = true) (k_times : PySem.W.keepIn K (.ref f_times) = true)
    {f_is_name : Addr} {oc_is_name kV_is_name dc_is_name pm_is_name cd_is_name ct_is_name : Value} {od_is_name an_is_name : Option Addr} {sl_is_name : Array (Option Value)}
    (a_is_name : PySem.W.nsIn K mainGlobals "is_name" = some (some (.ref f_is_name)))
    (l_is_name : K.lookup f_is_name = some ⟨oc_is_name, od_is_name, .func (PySem.W.fnOf "is_name" "is_name" (defArgs s_is_name) (defBody s_is_name) (defScope s_is_name) .none kV_is_name dc_is_name pm_is_name an_is_name cd_is_name ct_is_name), sl_is_name⟩) (c_is_name : PySem.W.codeIn K cd_is_name "is_name" = true) (k_is_name : PySem.W.keepIn K (.ref f_is_name) = true)
    {f__is_word : Addr} {oc__is_word kV__is_word dc__is_word pm__is_word cd__is_word ct__is_word : Value} {od__is_word an__is_word : Option Addr} {sl__is_word : Array (Option Value)}
    (a__is_word : PySem.W.nsIn K mainGlobals "_is_word" = some (some (.ref f__is_word)))
    (l__is_word : K.lookup f__is_word = some ⟨oc__is_word, od__is_word, .func (PySem.W.fnOf "_is_word" "_is_word" (defArgs s__is_word) (defBody s__is_word) (defScope s__is_word) .none kV__is_word dc__is_word pm__is_word an__is_word cd__is_word ct__is_word), sl__is_word⟩) (c__is_word : PySem.W.codeIn K cd__is_word "_is_word" = true) (k__is_word : PySem.W.keepIn K (.ref f__is_word) = true)
    {f__are_terms : Addr} {oc__are_terms kV__are_terms dc__are_terms pm__are_terms cd__are_terms ct__are_terms : Value} {od__are_terms an__are_terms : Option Addr} {sl__are_terms : Array (Option Value)}
    (a__are_terms : PySem.W.nsIn K mainGlobals "_are_terms" = some (some (.ref f__are_terms)))
    (l__are_terms : K.lookup f__are_terms = some ⟨oc__are_terms, od__are_terms, .func (PySem.W.fnOf "_are_terms" "_are_terms" (defArgs s__are_terms) (defBody s__are_terms) (defScope s__are_terms) .none kV__are_terms dc__are_terms pm__are_terms an__are_terms cd__are_terms ct__are_terms), sl__are_terms⟩) (c__are_terms : PySem.W.codeIn K cd__are_terms "_are_terms" = true) (k__are_terms : PySem.W.keepIn K (.ref f__are_terms) = true)
    {f__is_term : Addr} {oc__is_term kV__is_term dc__is_term pm__is_term cd__is_term ct__is_term : Value} {od__is_term an__is_term : Option Addr} {sl__is_term : Array (Option Value)}
    (a__is_term : PySem.W.nsIn K mainGlobals "_is_term" = some (some (.ref f__is_term)))
    (l__is_term : K.lookup f__is_term = some ⟨oc__is_term, od__is_term, .func (PySem.W.fnOf "_is_term" "_is_term" (defArgs s__is_term) (defBody s__is_term) (defScope s__is_term) .none kV__is_term dc__is_term pm__is_term an__is_term cd__is_term ct__is_term), sl__is_term⟩) (c__is_term : PySem.W.codeIn K cd__is_term "_is_term" = true) (k__is_term : PySem.W.keepIn K (.ref f__is_term) = true)
    {f_never_holds : Addr} {oc_never_holds kV_never_holds dc_never_holds pm_never_holds cd_never_holds ct_never_holds : Value} {od_never_holds an_never_holds : Option Addr} {sl_never_holds : Array (Option Value)}
    (a_never_holds : PySem.W.nsIn K mainGlobals "never_holds" = some (some (.ref f_never_holds)))
    (l_never_holds : K.lookup f_never_holds = some ⟨oc_never_holds, od_never_holds, .func (PySem.W.fnOf "never_holds" "never_holds" (defArgs s_never_holds) (defBody s_never_holds) (defScope s_never_holds) .none kV_never_holds dc_never_holds pm_never_holds an_never_holds cd_never_holds ct_never_holds), sl_never_holds⟩) (c_never_holds : PySem.W.codeIn K cd_never_holds "never_holds" = true) (k_never_holds : PySem.W.keepIn K (.ref f_never_holds) = true)
    {f__are_shares : Addr} {oc__are_shares kV__are_shares dc__are_shares pm__are_shares cd__are_shares ct__are_shares : Value} {od__are_shares an__are_shares : Option Addr} {sl__are_shares : Array (Option Value)}
    (a__are_shares : PySem.W.nsIn K mainGlobals "_are_shares" = some (some (.ref f__are_shares)))
    (l__are_shares : K.lookup f__are_shares = some ⟨oc__are_shares, od__are_shares, .func (PySem.W.fnOf "_are_shares" "_are_shares" (defArgs s__are_shares) (defBody s__are_shares) (defScope s__are_shares) .none kV__are_shares dc__are_shares pm__are_shares an__are_shares cd__are_shares ct__are_shares), sl__are_shares⟩) (c__are_shares : PySem.W.codeIn K cd__are_shares "_are_shares" = true) (k__are_shares : PySem.W.keepIn K (.ref f__are_shares) = true)
    {f__law_deck : Addr} {oc__law_deck kV__law_deck dc__law_deck pm__law_deck cd__law_deck ct__law_deck : Value} {od__law_deck an__law_deck : Option Addr} {sl__law_deck : Array (Option Value)}
    (a__law_deck : PySem.W.nsIn K mainGlobals "_law_deck" = some (some (.ref f__law_deck)))
    (l__law_deck : K.lookup f__law_deck = some ⟨oc__law_deck, od__law_deck, .func (PySem.W.fnOf "_law_deck" "_law_deck" (defArgs s__law_deck) (defBody s__law_deck) (defScope s__law_deck) .none kV__law_deck dc__law_deck pm__law_deck an__law_deck cd__law_deck ct__law_deck), sl__law_deck⟩) (c__law_deck : PySem.W.codeIn K cd__law_deck "_law_deck" = true) (k__law_deck : PySem.W.keepIn K (.ref f__law_deck) = true)
    {f__law_take : Addr} {oc__law_take kV__law_take dc__law_take pm__law_take cd__law_take ct__law_take : Value} {od__law_take an__law_take : Option Addr} {sl__law_take : Array (Option Value)}
    (a__law_take : PySem.W.nsIn K mainGlobals "_law_take" = some (some (.ref f__law_take)))
    (l__law_take : K.lookup f__law_take = some ⟨oc__law_take, od__law_take, .func (PySem.W.fnOf "_law_take" "_law_take" (defArgs s__law_take) (defBody s__law_take) (defScope s__law_take) .none kV__law_take dc__law_take pm__law_take an__law_take cd__law_take ct__law_take), sl__law_take⟩) (c__law_take : PySem.W.codeIn K cd__law_take "_law_take" = true) (k__law_take : PySem.W.keepIn K (.ref f__law_take) = true)
    {f__law_frac : Addr} {oc__law_frac kV__law_frac dc__law_frac pm__law_frac cd__law_frac ct__law_frac : Value} {od__law_frac an__law_frac : Option Addr} {sl__law_frac : Array (Option Value)}
    (a__law_frac : PySem.W.nsIn K mainGlobals "_law_frac" = some (some (.ref f__law_frac)))
    (l__law_frac : K.lookup f__law_frac = some ⟨oc__law_frac, od__law_frac, .func (PySem.W.fnOf "_law_frac" "_law_frac" (defArgs s__law_frac) (defBody s__law_frac) (defScope s__law_frac) .none kV__law_frac dc__law_frac pm__law_frac an__law_frac cd__law_frac ct__law_frac), sl__law_frac⟩) (c__law_frac : PySem.W.codeIn K cd__law_frac "_law_frac" = true) (k__law_frac : PySem.W.keepIn K (.ref f__law_frac) = true)
    {f__law_plus : Addr} {oc__law_plus kV__law_plus dc__law_plus pm__law_plus cd__law_plus ct__law_plus : Value} {od__law_plus an__law_plus : Option Addr} {sl__law_plus : Array (Option Value)}
    (a__law_plus : PySem.W.nsIn K mainGlobals "_law_plus" = some (some (.ref f__law_plus)))
    (l__law_plus : K.lookup f__law_plus = some ⟨oc__law_plus, od__law_plus, .func (PySem.W.fnOf "_law_plus" "_law_plus" (defArgs s__law_plus) (defBody s__law_plus) (defScope s__law_plus) .none kV__law_plus dc__law_plus pm__law_plus an__law_plus cd__law_plus ct__law_plus), sl__law_plus⟩) (c__law_plus : PySem.W.codeIn K cd__law_plus "_law_plus" = true) (k__law_plus : PySem.W.keepIn K (.ref f__law_plus) = true)
    {f__law_times : Addr} {oc__law_times kV__law_times dc__law_times pm__law_times cd__law_times ct__law_times : Value} {od__law_times an__law_times : Option Addr} {sl__law_times : Array (Option Value)}
    (a__law_times : PySem.W.nsIn K mainGlobals "_law_times" = some (some (.ref f__law_times)))
    (l__law_times : K.lookup f__law_times = some ⟨oc__law_times, od__law_times, .func (PySem.W.fnOf "_law_times" "_law_times" (defArgs s__law_times) (defBody s__law_times) (defScope s__law_times) .none kV__law_times dc__law_times pm__law_times an__law_times cd__law_times ct__law_times), sl__law_times⟩) (c__law_times : PySem.W.codeIn K cd__law_times "_law_times" = true) (k__law_times : PySem.W.keepIn K (.ref f__law_times) = true)
    {f__law_names : Addr} {oc__law_names kV__law_names dc__law_names pm__law_names cd__law_names ct__law_names : Value} {od__law_names an__law_names : Option Addr} {sl__law_names : Array (Option Value)}
    (a__law_names : PySem.W.nsIn K mainGlobals "_law_names" = some (some (.ref f__law_names)))
    (l__law_names : K.lookup f__law_names = some ⟨oc__law_names, od__law_names, .func (PySem.W.fnOf "_law_names" "_law_names" (defArgs s__law_names) (defBody s__law_names) (defScope s__law_names) .none kV__law_names dc__law_names pm__law_names an__law_names cd__law_names ct__law_names), sl__law_names⟩) (c__law_names : PySem.W.codeIn K cd__law_names "_law_names" = true) (k__law_names : PySem.W.keepIn K (.ref f__law_names) = true)
    {f__law_small : Addr} {oc__law_small kV__law_small dc__law_small pm__law_small cd__law_small ct__law_small : Value} {od__law_small an__law_small : Option Addr} {sl__law_small : Array (Option Value)}
    (a__law_small : PySem.W.nsIn K mainGlobals "_law_small" = some (some (.ref f__law_small)))
    (l__law_small : K.lookup f__law_small = some ⟨oc__law_small, od__law_small, .func (PySem.W.fnOf "_law_small" "_law_small" (defArgs s__law_small) (defBody s__law_small) (defScope s__law_small) .none kV__law_small dc__law_small pm__law_small an__law_small cd__law_small ct__law_small), sl__law_small⟩) (c__law_small : PySem.W.codeIn K cd__law_small "_law_small" = true) (k__law_small : PySem.W.keepIn K (.ref f__law_small) = true)
    {f__law_pair : Addr} {oc__law_pair kV__law_pair dc__law_pair pm__law_pair cd__law_pair ct__law_pair : Value} {od__law_pair an__law_pair : Option Addr} {sl__law_pair : Array (Option Value)}
    (a__law_pair : PySem.W.nsIn K mainGlobals "_law_pair" = some (some (.ref f__law_pair)))
    (l__law_pair : K.lookup f__law_pair = some ⟨oc__law_pair, od__law_pair, .func (PySem.W.fnOf "_law_pair" "_law_pair" (defArgs s__law_pair) (defBody s__law_pair) (defScope s__law_pair) .none kV__law_pair dc__law_pair pm__law_pair an__law_pair cd__law_pair ct__law_pair), sl__law_pair⟩) (c__law_pair : PySem.W.codeIn K cd__law_pair "_law_pair" = true) (k__law_pair : PySem.W.keepIn K (.ref f__law_pair) = true)
    {f__law_scaled : Addr} {oc__law_scaled kV__law_scaled dc__law_scaled pm__law_scaled cd__law_scaled ct__law_scaled : Value} {od__law_scaled an__law_scaled : Option Addr} {sl__law_scaled : Array (Option Value)}
    (a__law_scaled : PySem.W.nsIn K mainGlobals "_law_scaled" = some (some (.ref f__law_scaled)))
    (l__law_scaled : K.lookup f__law_scaled = some ⟨oc__law_scaled, od__law_scaled, .func (PySem.W.fnOf "_law_scaled" "_law_scaled" (defArgs s__law_scaled) (defBody s__law_scaled) (defScope s__law_scaled) .none kV__law_scaled dc__law_scaled pm__law_scaled an__law_scaled cd__law_scaled ct__law_scaled), sl__law_scaled⟩) (c__law_scaled : PySem.W.codeIn K cd__law_scaled "_law_scaled" = true) (k__law_scaled : PySem.W.keepIn K (.ref f__law_scaled) = true)
    {f__law_added : Addr} {oc__law_added kV__law_added dc__law_added pm__law_added cd__law_added ct__law_added : Value} {od__law_added an__law_added : Option Addr} {sl__law_added : Array (Option Value)}
    (a__law_added : PySem.W.nsIn K mainGlobals "_law_added" = some (some (.ref f__law_added)))
    (l__law_added : K.lookup f__law_added = some ⟨oc__law_added, od__law_added, .func (PySem.W.fnOf "_law_added" "_law_added" (defArgs s__law_added) (defBody s__law_added) (defScope s__law_added) .none kV__law_added dc__law_added pm__law_added an__law_added cd__law_added ct__law_added), sl__law_added⟩) (c__law_added : PySem.W.codeIn K cd__law_added "_law_added" = true) (k__law_added : PySem.W.keepIn K (.ref f__law_added) = true)
    {f__law_adds_up : Addr} {oc__law_adds_up kV__law_adds_up dc__law_adds_up pm__law_adds_up cd__law_adds_up ct__law_adds_up : Value} {od__law_adds_up an__law_adds_up : Option Addr} {sl__law_adds_up : Array (Option Value)}
    (a__law_adds_up : PySem.W.nsIn K mainGlobals "_law_adds_up" = some (some (.ref f__law_adds_up)))
    (l__law_adds_up : K.lookup f__law_adds_up = some ⟨oc__law_adds_up, od__law_adds_up, .func (PySem.W.fnOf "_law_adds_up" "_law_adds_up" (defArgs s__law_adds_up) (defBody s__law_adds_up) (defScope s__law_adds_up) .none kV__law_adds_up dc__law_adds_up pm__law_adds_up an__law_adds_up cd__law_adds_up ct__law_adds_up), sl__law_adds_up⟩) (c__law_adds_up : PySem.W.codeIn K cd__law_adds_up "_law_adds_up" = true) (k__law_adds_up : PySem.W.keepIn K (.ref f__law_adds_up) = true)
    {f__law_papers : Addr} {oc__law_papers kV__law_papers dc__law_papers pm__law_papers cd__law_papers ct__law_papers : Value} {od__law_papers an__law_papers : Option Addr} {sl__law_papers : Array (Option Value)}
    (a__law_papers : PySem.W.nsIn K mainGlobals "_law_papers" = some (some (.ref f__law_papers)))
    (l__law_papers : K.lookup f__law_papers = some ⟨oc__law_papers, od__law_papers, .func (PySem.W.fnOf "_law_papers" "_law_papers" (defArgs s__law_papers) (defBody s__law_papers) (defScope s__law_papers) .none kV__law_papers dc__law_papers pm__law_papers an__law_papers cd__law_papers ct__law_papers), sl__law_papers⟩) (c__law_papers : PySem.W.codeIn K cd__law_papers "_law_papers" = true) (k__law_papers : PySem.W.keepIn K (.ref f__law_papers) = true)
    {f_law : Addr} {oc_law kV_law dc_law pm_law cd_law ct_law : Value} {od_law an_law : Option Addr} {sl_law : Array (Option Value)}
    (a_law : PySem.W.nsIn K mainGlobals "law" = some (some (.ref f_law)))
    (l_law : K.lookup f_law = some ⟨oc_law, od_law, .func (PySem.W.fnOf "law" "law" (defArgs s_law) (defBody s_law) (defScope s_law) .none kV_law dc_law pm_law an_law cd_law ct_law), sl_law⟩) (c_law : PySem.W.codeIn K cd_law "law" = true) (k_law : PySem.W.keepIn K (.ref f_law) = true)
    {C_Form : Addr} (a_Form : PySem.W.nsIn K mainGlobals "Form" = some (some (.ref C_Form))) (pg_Form : PySem.W.plainGet K C_Form Str.empty = true) (hd_Form : PySem.W.hasDictIn K C_Form = true) (po_Form : PySem.W.plainOver K C_Form = true) (sa_Form : PySem.W.findIn K (.ref C_Form) "__setattr__" = some (some (.builtin "object.__setattr__"))) (kc_Form : PySem.W.keepIn K (.ref C_Form) = true)
    (nf_Form__terms : PySem.W.findIn K (.ref C_Form) "_terms" = some none)
    (nf_Form__constant : PySem.W.findIn K (.ref C_Form) "_constant" = some none)
    {f_Form___init__ T_Form___init__ q0_Form___init__ q1_Form___init__ : Addr} {oc_Form___init__ kV_Form___init__ dc_Form___init__ pm_Form___init__ cd_Form___init__ ct_Form___init__ : Value} {od_Form___init__ an_Form___init__ : Option Addr} {sl_Form___init__ : Array (Option Value)} {ob_Form___init__ : Obj} {nn_Form___init__ : Nat}
    (a_Form___init__ : PySem.W.findIn K (.ref C_Form) "__init__" = some (some (.ref f_Form___init__))) (i_Form___init__ : PySem.W.isFn K (.ref f_Form___init__) = true)
    (l_Form___init__ : K.lookup f_Form___init__ = some ⟨oc_Form___init__, od_Form___init__, .func (PySem.W.fnOf "__init__" "Form.__init__" (defArgs s_Form___init__) (defBody s_Form___init__) (defScope s_Form___init__) (.ref T_Form___init__) kV_Form___init__ dc_Form___init__ pm_Form___init__ an_Form___init__ cd_Form___init__ ct_Form___init__), sl_Form___init__⟩) (c_Form___init__ : PySem.W.codeIn K cd_Form___init__ "Form.__init__" = true) (k_Form___init__ : PySem.W.keepIn K (.ref f_Form___init__) = true)
    (lT_Form___init__ : K.lookup T_Form___init__ = some ob_Form___init__) (oT_Form___init__ : ob_Form___init__.data = .seq #[.ref q0_Form___init__, .ref q1_Form___init__] nn_Form___init__) (k0_Form___init__ : readK K 9 (.ref q0_Form___init__) = some (.tuple [])) (k1_Form___init__ : readK K 9 (.ref q1_Form___init__) = some (.tuple [.int 0, .int 1])) (mk_Form : PySem.W.makesIn K C_Form = true)
    {p_Form_terms : Addr} {r_Form_terms : List Value}
    {f_Form_terms : Addr} {oc_Form_terms kV_Form_terms dc_Form_terms pm_Form_terms cd_Form_terms ct_Form_terms : Value} {od_Form_terms an_Form_terms : Option Addr} {sl_Form_terms : Array (Option Value)}
    (a_Form_terms : PySem.W.findIn K (.ref C_Form) "terms" = some (some (.ref p_Form_terms))) (g_Form_terms : PySem.W.specialIn K (.ref p_Form_terms) "__get__" = some (some (.builtin "property.__get__"))) (t_Form_terms : PySem.W.takesIn K (.ref p_Form_terms) = some true) (rr_Form_terms : PySem.W.recIn K p_Form_terms "property" = some (.ref f_Form_terms :: r_Form_terms))
    (l_Form_terms : K.lookup f_Form_terms = some ⟨oc_Form_terms, od_Form_terms, .func (PySem.W.fnOf "terms" "Form.terms" (defArgs s_Form_terms) (defBody s_Form_terms) (defScope s_Form_terms) .none kV_Form_terms dc_Form_terms pm_Form_terms an_Form_terms cd_Form_terms ct_Form_terms), sl_Form_terms⟩) (c_Form_terms : PySem.W.codeIn K cd_Form_terms "Form.terms" = true) (k_Form_terms : PySem.W.keepIn K (.ref f_Form_terms) = true)
    {p_Form_constant : Addr} {r_Form_constant : List Value}
    {f_Form_constant : Addr} {oc_Form_constant kV_Form_constant dc_Form_constant pm_Form_constant cd_Form_constant ct_Form_constant : Value} {od_Form_constant an_Form_constant : Option Addr} {sl_Form_constant : Array (Option Value)}
    (a_Form_constant : PySem.W.findIn K (.ref C_Form) "constant" = some (some (.ref p_Form_constant))) (g_Form_constant : PySem.W.specialIn K (.ref p_Form_constant) "__get__" = some (some (.builtin "property.__get__"))) (t_Form_constant : PySem.W.takesIn K (.ref p_Form_constant) = some true) (rr_Form_constant : PySem.W.recIn K p_Form_constant "property" = some (.ref f_Form_constant :: r_Form_constant))
    (l_Form_constant : K.lookup f_Form_constant = some ⟨oc_Form_constant, od_Form_constant, .func (PySem.W.fnOf "constant" "Form.constant" (defArgs s_Form_constant) (defBody s_Form_constant) (defScope s_Form_constant) .none kV_Form_constant dc_Form_constant pm_Form_constant an_Form_constant cd_Form_constant ct_Form_constant), sl_Form_constant⟩) (c_Form_constant : PySem.W.codeIn K cd_Form_constant "Form.constant" = true) (k_Form_constant : PySem.W.keepIn K (.ref f_Form_constant) = true)
    {f_Form___add__ : Addr} {oc_Form___add__ kV_Form___add__ dc_Form___add__ pm_Form___add__ cd_Form___add__ ct_Form___add__ : Value} {od_Form___add__ an_Form___add__ : Option Addr} {sl_Form___add__ : Array (Option Value)}
    (a_Form___add__ : PySem.W.findIn K (.ref C_Form) "__add__" = some (some (.ref f_Form___add__))) (i_Form___add__ : PySem.W.isFn K (.ref f_Form___add__) = true)
    (l_Form___add__ : K.lookup f_Form___add__ = some ⟨oc_Form___add__, od_Form___add__, .func (PySem.W.fnOf "__add__" "Form.__add__" (defArgs s_Form___add__) (defBody s_Form___add__) (defScope s_Form___add__) .none kV_Form___add__ dc_Form___add__ pm_Form___add__ an_Form___add__ cd_Form___add__ ct_Form___add__), sl_Form___add__⟩) (c_Form___add__ : PySem.W.codeIn K cd_Form___add__ "Form.__add__" = true) (k_Form___add__ : PySem.W.keepIn K (.ref f_Form___add__) = true)
    {f_Form___mul__ : Addr} {oc_Form___mul__ kV_Form___mul__ dc_Form___mul__ pm_Form___mul__ cd_Form___mul__ ct_Form___mul__ : Value} {od_Form___mul__ an_Form___mul__ : Option Addr} {sl_Form___mul__ : Array (Option Value)}
    (a_Form___mul__ : PySem.W.findIn K (.ref C_Form) "__mul__" = some (some (.ref f_Form___mul__))) (i_Form___mul__ : PySem.W.isFn K (.ref f_Form___mul__) = true)
    (l_Form___mul__ : K.lookup f_Form___mul__ = some ⟨oc_Form___mul__, od_Form___mul__, .func (PySem.W.fnOf "__mul__" "Form.__mul__" (defArgs s_Form___mul__) (defBody s_Form___mul__) (defScope s_Form___mul__) .none kV_Form___mul__ dc_Form___mul__ pm_Form___mul__ an_Form___mul__ cd_Form___mul__ ct_Form___mul__), sl_Form___mul__⟩) (c_Form___mul__ : PySem.W.codeIn K cd_Form___mul__ "Form.__mul__" = true) (k_Form___mul__ : PySem.W.keepIn K (.ref f_Form___mul__) = true)
    {C_SlideError : Addr} (g_SlideError : PySem.W.nsIn K mainGlobals "SlideError" = some (some (.ref C_SlideError))) (e_SlideError : ecIn K C_SlideError "SlideError" veL "ValueError.__new__" = true)
    {C_BadForm : Addr} (g_BadForm : PySem.W.nsIn K mainGlobals "BadForm" = some (some (.ref C_BadForm))) (e_BadForm : ecIn K C_BadForm "BadForm" (.ref C_SlideError :: veL) "ValueError.__new__" = true)
    (z_NotImplemented : PySem.W.nsIn K mainGlobals "NotImplemented" = some none)
    (z_abs : PySem.W.nsIn K mainGlobals "abs" = some none)
    (z_all : PySem.W.nsIn K mainGlobals "all" = some none)
    (z_any : PySem.W.nsIn K mainGlobals "any" = some none)
    (z_bool : PySem.W.nsIn K mainGlobals "bool" = some none)
    (z_dict : PySem.W.nsIn K mainGlobals "dict" = some none)
    (z_int : PySem.W.nsIn K mainGlobals "int" = some none)
    (z_isinstance : PySem.W.nsIn K mainGlobals "isinstance" = some none)
    (z_len : PySem.W.nsIn K mainGlobals "len" = some none)
    (z_list : PySem.W.nsIn K mainGlobals "list" = some none)
    (z_range : PySem.W.nsIn K mainGlobals "range" = some none)
    (z_repr : PySem.W.nsIn K mainGlobals "repr" = some none)
    (z_set : PySem.W.nsIn K mainGlobals "set" = some none)
    (z_sorted : PySem.W.nsIn K mainGlobals "sorted" = some none)
    (z_str : PySem.W.nsIn K mainGlobals "str" = some none)
    (z_tuple : PySem.W.nsIn K mainGlobals "tuple" = some none)
    (z_zip : PySem.W.nsIn K mainGlobals "zip" = some none)
    {t_LETTERS : Tok} (c_LETTERS : PySem.W.nsIn K mainGlobals "LETTERS" = some (some (.str "abcdefghijklmnopqrstuvwxyz" t_LETTERS)))
    {t_LONGEST : Tok} (c_LONGEST : PySem.W.nsIn K mainGlobals "LONGEST" = some (some (.int 3 t_LONGEST)))
    (z_gcd : PySem.W.nsIn K mainGlobals "gcd" = some (some (.builtin "math.gcd")))
    (x_BadForm : PySem.W.excIn K C_BadForm veL "ValueError.__new__" = true)
    (s_BadForm : PySem.W.subIn K (.ref C_BadForm) (.type "BaseException") = some true)
    (o_Form : Qj.ownIn K C_Form = true) : Txt K mg where
    is_whole := def_mk X G a_is_whole l_is_whole c_is_whole k_is_whole (fun _ _ _ _ _ _ us hl => match us, hl with | [_], _ => rfl)
    is_fraction := def_mk X G a_is_fraction l_is_fraction c_is_fraction k_is_fraction (fun _ _ _ _ _ _ us hl => match us, hl with | [_], _ => rfl)
    _lowest := def_mk X G a__lowest l__lowest c__lowest k__lowest (fun _ _ _ _ _ _ us hl => match us, hl with | [_, _], _ => rfl)
    plus := def_mk X G a_plus l_plus c_plus k_plus (fun _ _ _ _ _ _ us hl => match us, hl with | [_, _], _ => rfl)
    times := def_mk X G a_times l_times c_times k_times (fun _ _ _ _ _ _ us hl => match us, hl with | [_, _], _ => rfl)
    is_name := def_mk X G a_is_name l_is_name c_is_name k_is_name (fun _ _ _ _ _ _ us hl => match us, hl with | [_], _ => rfl)
    _is_word := def_mk X G a__is_word l__is_word c__is_word k__is_word (fun _ _ _ _ _ _ us hl => match us, hl with | [_, _], _ => rfl)
    _are_terms := def_mk X G a__are_terms l__are_terms c__are_terms k__are_terms (fun _ _ _ _ _ _ us hl => match us, hl with | [_], _ => rfl)
    _is_term := def_mk X G a__is_term l__is_term c__is_term k__is_term (fun _ _ _ _ _ _ us hl => match us, hl with | [_], _ => rfl)
    never_holds := def_mk X G a_never_holds l_never_holds c_never_holds k_never_holds (fun _ _ _ _ _ _ us hl => match us, hl with | [_, _], _ => rfl)
    _are_shares := def_mk X G a__are_shares l__are_shares c__are_shares k__are_shares (fun _ _ _ _ _ _ us hl => match us, hl with | [_, _], _ => rfl)
    _law_deck := def_mk X G a__law_deck l__law_deck c__law_deck k__law_deck (fun _ _ _ _ _ _ us hl => match us, hl with | [_], _ => rfl)
    _law_take := def_mk X G a__law_take l__law_take c__law_take k__law_take (fun _ _ _ _ _ _ us hl => match us, hl with | [_, _], _ => rfl)
    _law_frac := def_mk X G a__law_frac l__law_frac c__law_frac k__law_frac (fun _ _ _ _ _ _ us hl => match us, hl with | [_, _], _ => rfl)
    _law_plus := def_mk X G a__law_plus l__law_plus c__law_plus k__law_plus (fun _ _ _ _ _ _ us hl => match us, hl with | [_, _], _ => rfl)
    _law_times := def_mk X G a__law_times l__law_times c__law_times k__law_times (fun _ _ _ _ _ _ us hl => match us, hl with | [_, _], _ => rfl)
    _law_names := def_mk X G a__law_names l__law_names c__law_names k__law_names (fun _ _ _ _ _ _ us hl => match us, hl with | [_], _ => rfl)
    _law_small := def_mk X G a__law_small l__law_small c__law_small k__law_small (fun _ _ _ _ _ _ us hl => match us, hl with | [_], _ => rfl)
    _law_pair := def_mk X G a__law_pair l__law_pair c__law_pair k__law_pair (fun _ _ _ _ _ _ us hl => match us, hl with | [_, _], _ => rfl)
    _law_scaled := def_mk X G a__law_scaled l__law_scaled c__law_scaled k__law_scaled (fun _ _ _ _ _ _ us hl => match us, hl with | [_, _, _], _ => rfl)
    _law_added := def_mk X G a__law_added l__law_added c__law_added k__law_added (fun _ _ _ _ _ _ us hl => match us, hl with | [_, _], _ => rfl)
    _law_adds_up := def_mk X G a__law_adds_up l__law_adds_up c__law_adds_up k__law_adds_up (fun _ _ _ _ _ _ us hl => match us, hl with | [_, _], _ => rfl)
    _law_papers := def_mk X G a__law_papers l__law_papers c__law_papers k__law_papers (fun _ _ _ _ _ _ us hl => match us, hl with | [_, _, _], _ => rfl)
    law := def_mk X G a_law l_law c_law k_law (fun _ _ _ _ _ _ us hl => match us, hl with | [_], _ => rfl)
    C_Form := C_Form
    g_Form := PySem.W.mg_of X G a_Form
    cl_Form := ⟨pg_Form, hd_Form, po_Form, sa_Form⟩
    kp_Form := kc_Form
    nf_Form__terms := nf_Form__terms
    nf_Form__constant := nf_Form__constant
    p_Form___init__0 := q0_Form___init__
    k_Form___init__0 := k0_Form___init__
    p_Form___init__1 := q1_Form___init__
    k_Form___init__1 := k1_Form___init__
    Form___init__ := iniD_mk a_Form___init__ i_Form___init__ l_Form___init__ c_Form___init__ k_Form___init__ lT_Form___init__ oT_Form___init__ rfl rfl rfl (fun T kV doc pm an cdv ct us its h1 h2 => match us, its, h1, h2 with | [_], [_, _], _, _ => ⟨_, rfl, rfl⟩) (fun T kV doc pm an cdv ct us its h1 h2 => match us, its, h1, h2 with | [_, _], [_, _], _, _ => ⟨_, rfl, rfl⟩) (fun T kV doc pm an cdv ct us its h1 h2 => match us, its, h1, h2 with | [_, _, _], [_, _], _, _ => ⟨_, rfl, rfl⟩)
    mk_Form := ⟨mk_Form, a_Form___init__, i_Form___init__, kc_Form⟩
    Form_terms := pdef_mk a_Form_terms g_Form_terms t_Form_terms rr_Form_terms l_Form_terms c_Form_terms k_Form_terms (fun _ _ _ _ _ _ us hl => match us, hl with | [_], _ => rfl)
    Form_constant := pdef_mk a_Form_constant g_Form_constant t_Form_constant rr_Form_constant l_Form_constant c_Form_constant k_Form_constant (fun _ _ _ _ _ _ us hl => match us, hl with | [_], _ => rfl)
    Form___add__ := mdef_mk a_Form___add__ i_Form___add__ l_Form___add__ c_Form___add__ k_Form___add__ (fun _ _ _ _ _ _ us hl => match us, hl with | [_, _], _ => rfl)
    Form___mul__ := mdef_mk a_Form___mul__ i_Form___mul__ l_Form___mul__ c_Form___mul__ k_Form___mul__ (fun _ _ _ _ _ _ us hl => match us, hl with | [_, _], _ => rfl)
    SlideError := ⟨C_SlideError, PySem.W.mg_of X G g_SlideError, ExC.of e_SlideError⟩
    BadForm := ⟨C_BadForm, PySem.W.mg_of X G g_BadForm, ExC.of e_BadForm⟩
    m_NotImplemented := PySem.W.mg_none_of X G z_NotImplemented
    m_abs := PySem.W.mg_none_of X G z_abs
    m_all := PySem.W.mg_none_of X G z_all
    m_any := PySem.W.mg_none_of X G z_any
    m_bool := PySem.W.mg_none_of X G z_bool
    m_dict := PySem.W.mg_none_of X G z_dict
    m_int := PySem.W.mg_none_of X G z_int
    m_isinstance := PySem.W.mg_none_of X G z_isinstance
    m_len := PySem.W.mg_none_of X G z_len
    m_list := PySem.W.mg_none_of X G z_list
    m_range := PySem.W.mg_none_of X G z_range
    m_repr := PySem.W.mg_none_of X G z_repr
    m_set := PySem.W.mg_none_of X G z_set
    m_sorted := PySem.W.mg_none_of X G z_sorted
    m_str := PySem.W.mg_none_of X G z_str
    m_tuple := PySem.W.mg_none_of X G z_tuple
    m_zip := PySem.W.mg_none_of X G z_zip
    t_LETTERS := t_LETTERS
    c_LETTERS := PySem.W.mg_of X G c_LETTERS
    t_LONGEST := t_LONGEST
    c_LONGEST := PySem.W.mg_of X G c_LONGEST
    g_gcd := PySem.W.mg_of X G z_gcd
    x_BadForm := x_BadForm
    s_BadForm := s_BadForm
    own_Form := OwnC.of o_Form
theorem all_mk {P : Program} {w : World} {K : PySem.W.Frag} {mg : Str → Option Value} {fa : Addr} (hfa : mg "law" = some (.ref fa)) (T : Txt K mg) :
    ∃ fd : FuncData, (∀ (s : Shared) (u : Value), BindsTo s fd ⟨[u], []⟩ [("_law_script", u)]) ∧ ∀ base : Heap, K.In base → base.Ns mainGlobals mg → FnG P w K mg base CX0 14 fa fd ["_law_script"] (spLaw K) := by
  have e := hfa.symm.trans T.law.g
  cases e
  obtain ⟨oc, od, kV, doc, pm, an, cdv, ct, osl, e, _, _⟩ := T.law.F.ex
  refine ⟨T.law.fd, fun s u => ?_, fun base _ _ => ok_law T⟩
  rw [e]
  exact .of_eq rfl
end K10
open PySem PySem.W PyProof.Rows
set_option maxHeartbeats 0 in
theorem PySem.Challenge.cw_offscale_k10_papers_judged_holds : PySem.Challenge.rw_offscale_k10_papers_judged.Holds := by
  w_on; o_law; k_head; (case hw => w_witness2)
  k_fill
  refine Qj.walk_ofG (l := PySem.Challenge.rw_offscale_k10_papers_judged) (n := 63) (k := 14) (x := "_law_script") (CX := L2.CX0) (sp := K10.spLaw) rfl (by decide) rfl ⟨rfl, by decide, by decide⟩ (fun w h Y => PySem.W.kIn_of Y) ?F (fun K H a ns hl _ hS => ⟨a, ns, rfl, hS, hl, fun _ => rfl⟩) (fun _ _ _ _ h => h)
  case F =>
    intro w mg fa h KX G hmg
    refine' K10.all_mk hmg (K10.mkTxt KX G ?a_is_whole ?l_is_whole ?c_is_whole ?k_is_whole ?a_is_fraction ?l_is_fraction ?c_is_fraction ?k_is_fraction ?a__lowest ?l__lowest ?c__lowest ?k__lowest ?a_plus ?l_plus ?c_plus ?k_plus ?a_times ?l_times ?c_times ?k_times ?a_is_name ?l_is_name ?c_is_name ?k_is_name ?a__is_word ?l__is_word ?c__is_word ?k__is_word ?a__are_terms ?l__are_terms ?c__are_terms ?k__are_terms ?a__is_term ?l__is_term ?c__is_term ?k__is_term ?a_never_holds ?l_never_holds ?c_never_holds ?k_never_holds ?a__are_shares ?l__are_shares ?c__are_shares ?k__are_shares ?a__law_deck ?l__law_deck ?c__law_deck ?k__law_deck ?a__law_take ?l__law_take ?c__law_take ?k__law_take ?a__law_frac ?l__law_frac ?c__law_frac ?k__law_frac ?a__law_plus ?l__law_plus ?c__law_plus ?k__law_plus ?a__law_times ?l__law_times ?c__law_times ?k__law_times ?a__law_names ?l__law_names ?c__law_names ?k__law_names ?a__law_small ?l__law_small ?c__law_small ?k__law_small ?a__law_pair ?l__law_pair ?c__law_pair ?k__law_pair ?a__law_scaled ?l__law_scaled ?c__law_scaled ?k__law_scaled ?a__law_added ?l__law_added ?c__law_added ?k__law_added ?a__law_adds_up ?l__law_adds_up ?c__law_adds_up ?k__law_adds_up ?a__law_papers ?l__law_papers ?c__law_papers ?k__law_papers ?a_law ?l_law ?c_law ?k_law ?a_Form ?pg_Form ?hd_Form ?po_Form ?sa_Form ?kc_Form ?nf_Form__terms ?nf_Form__constant ?a_Form___init__ ?i_Form___init__ ?l_Form___init__ ?c_Form___init__ ?k_Form___init__ ?lT_Form___init__ ?oT_Form___init__ ?k0_Form___init__ ?k1_Form___init__ ?mk_Form ?a_Form_terms ?g_Form_terms ?t_Form_terms ?rr_Form_terms ?l_Form_terms ?c_Form_terms ?k_Form_terms ?a_Form_constant ?g_Form_constant ?t_Form_constant ?rr_Form_constant ?l_Form_constant ?c_Form_constant ?k_Form_constant ?a_Form___add__ ?i_Form___add__ ?l_Form___add__ ?c_Form___add__ ?k_Form___add__ ?a_Form___mul__ ?i_Form___mul__ ?l_Form___mul__ ?c_Form___mul__ ?k_Form___mul__ ?g_SlideError ?e_SlideError ?g_BadForm ?e_BadForm ?z_NotImplemented ?z_abs ?z_all ?z_any ?z_bool ?z_dict ?z_int ?z_isinstance ?z_len ?z_list ?z_range ?z_repr ?z_set ?z_sorted ?z_str ?z_tuple ?z_zip ?c_LETTERS ?c_LONGEST ?z_gcd ?x_BadForm ?s_BadForm ?o_Form)
    (case a_is_whole => k_is)
    (case l_is_whole => k_is)
    (case c_is_whole => k_is)
    (case k_is_whole => k_is)
    (case a_is_fraction => k_is)
    (case l_is_fraction => k_is)
    (case c_is_fraction => k_is)
    (case k_is_fraction => k_is)
    (case a__lowest => k_is)
    (case l__lowest => k_is)
    (case c__lowest => k_is)
    (case k__lowest => k_is)
    (case a_plus => k_is)
    (case l_plus => k_is)
    (case c_plus => k_is)
    (case k_plus => k_is)
    (case a_times => k_is)
    (case l_times => k_is)
    (case c_times => k_is)
    (case k_times => k_is)
    (case a_is_name => k_is)
    (case l_is_name => k_is)
    (case c_is_name => k_is)
    (case k_is_name => k_is)
    (case a__is_word => k_is)
    (case l__is_word => k_is)
    (case c__is_word => k_is)
    (case k__is_word => k_is)
    (case a__are_terms => k_is)
    (case l__are_terms => k_is)
    (case c__are_terms => k_is)
    (case k__are_terms => k_is)
    (case a__is_term => k_is)
    (case l__is_term => k_is)
    (case c__is_term => k_is)
    (case k__is_term => k_is)
    (case a_never_holds => k_is)
    (case l_never_holds => k_is)
    (case c_never_holds => k_is)
    (case k_never_holds => k_is)
    (case a__are_shares => k_is)
    (case l__are_shares => k_is)
    (case c__are_shares => k_is)
    (case k__are_shares => k_is)
    (case a__law_deck => k_is)
    (case l__law_deck => k_is)
    (case c__law_deck => k_is)
    (case k__law_deck => k_is)
    (case a__law_take => k_is)
    (case l__law_take => k_is)
    (case c__law_take => k_is)
    (case k__law_take => k_is)
    (case a__law_frac => k_is)
    (case l__law_frac => k_is)
    (case c__law_frac => k_is)
    (case k__law_frac => k_is)
    (case a__law_plus => k_is)
    (case l__law_plus => k_is)
    (case c__law_plus => k_is)
    (case k__law_plus => k_is)
    (case a__law_times => k_is)
    (case l__law_times => k_is)
    (case c__law_times => k_is)
    (case k__law_times => k_is)
    (case a__law_names => k_is)
    (case l__law_names => k_is)
    (case c__law_names => k_is)
    (case k__law_names => k_is)
    (case a__law_small => k_is)
    (case l__law_small => k_is)
    (case c__law_small => k_is)
    (case k__law_small => k_is)
    (case a__law_pair => k_is)
    (case l__law_pair => k_is)
    (case c__law_pair => k_is)
    (case k__law_pair => k_is)
    (case a__law_scaled => k_is)
    (case l__law_scaled => k_is)
    (case c__law_scaled => k_is)
    (case k__law_scaled => k_is)
    (case a__law_added => k_is)
    (case l__law_added => k_is)
    (case c__law_added => k_is)
    (case k__law_added => k_is)
    (case a__law_adds_up => k_is)
    (case l__law_adds_up => k_is)
    (case c__law_adds_up => k_is)
    (case k__law_adds_up => k_is)
    (case a__law_papers => k_is)
    (case l__law_papers => k_is)
    (case c__law_papers => k_is)
    (case k__law_papers => k_is)
    (case a_law => k_is)
    (case l_law => k_is)
    (case c_law => k_is)
    (case k_law => k_is)
    (case a_Form => k_is)
    (case pg_Form => k_is)
    (case hd_Form => k_is)
    (case po_Form => k_is)
    (case sa_Form => k_is)
    (case kc_Form => k_is)
    (case nf_Form__terms => k_is)
    (case nf_Form__constant => k_is)
    (case a_Form___init__ => k_is)
    (case i_Form___init__ => k_is)
    (case l_Form___init__ => k_is)
    (case c_Form___init__ => k_is)
    (case k_Form___init__ => k_is)
    (case lT_Form___init__ => k_is)
    (case oT_Form___init__ => rfl)
    (case k0_Form___init__ => kernel_rfl)
    (case k1_Form___init__ => kernel_rfl)
    (case mk_Form => k_is)
    (case a_Form_terms => k_is)
    (case g_Form_terms => k_is)
    (case t_Form_terms => k_is)
    (case rr_Form_terms => k_is)
    (case l_Form_terms => k_is)
    (case c_Form_terms => k_is)
    (case k_Form_terms => k_is)
    (case a_Form_constant => k_is)
    (case g_Form_constant => k_is)
    (case t_Form_constant => k_is)
    (case rr_Form_constant => k_is)
    (case l_Form_constant => k_is)
    (case c_Form_constant => k_is)
    (case k_Form_constant => k_is)
    (case a_Form___add__ => k_is)
    (case i_Form___add__ => k_is)
    (case l_Form___add__ => k_is)
    (case c_Form___add__ => k_is)
    (case k_Form___add__ => k_is)
    (case a_Form___mul__ => k_is)
    (case i_Form___mul__ => k_is)
    (case l_Form___mul__ => k_is)
    (case c_Form___mul__ => k_is)
    (case k_Form___mul__ => k_is)
    (case g_SlideError => k_is)
    (case e_SlideError => kernel_rfl)
    (case g_BadForm => k_is)
    (case e_BadForm => kernel_rfl)
    (case z_NotImplemented => k_is)
    (case z_abs => k_is)
    (case z_all => k_is)
    (case z_any => k_is)
    (case z_bool => k_is)
    (case z_dict => k_is)
    (case z_int => k_is)
    (case z_isinstance => k_is)
    (case z_len => k_is)
    (case z_list => k_is)
    (case z_range => k_is)
    (case z_repr => k_is)
    (case z_set => k_is)
    (case z_sorted => k_is)
    (case z_str => k_is)
    (case z_tuple => k_is)
    (case z_zip => k_is)
    (case c_LETTERS => k_is)
    (case c_LONGEST => k_is)
    (case z_gcd => k_is)
    (case x_BadForm => first | k_exc | k_is)
    (case s_BadForm => k_is)
    (case o_Form => kernel_rfl)
