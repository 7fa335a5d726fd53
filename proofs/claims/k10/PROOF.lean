import PyProof.Rows.All
import Wide.All
import OpenK.AllK
import Wide.FinOn
import HandS.ForExc
import HandS.HotCalls
import HandS.ExcField
import HandS.ExcIs
import HandS.RaiseMore
import HandS.Comp
import PyProof.ReprRoads
import KE.KExcIs
import HandS.IsInst
import HandS.Defaults
import HandS.Gcd
import HandS.Wide
import HandS.Style
import HandS.Flow
import HandS.Lambda
import HandS.TupLe
import HandS.TupAny
import HandS.SetFor
import HandS.Conv
import HandS.SlotsOwn
import PyProof.InstNe
import KE.GoesEnum
import HandS.Iter
import HandS.Walk
import HandS.Deep
import HandS.Sort
import HandS.SortRule
import HandS.MakeKw
import HandS.MakeKwOnly
import HandS.TryOnly
import KE.SortData
import KE.DatumOrd
import HandS.TupMul
import HandS.SortKw
import HandS.ListItems
import HandS.DictTup
import KE.KTupSum
import HandS.Small
import PySem.Challenge.RW_handalong_k10_plans_and_their_faults
set_option Elab.async false
set_option linter.all false
set_option maxRecDepth 100000
set_option maxHeartbeats 4000000
namespace KX
open PySem PySem.Spec PyProof.Rows L2
/-! repr of data -/
def rRepr (K : PySem.W.Frag) : List V → Hp → VK → Prop := fun xs H Q =>
  ∃ x d, xs = [x] ∧ Dp K H x d ∧ d.showable = true ∧ d.hasDict = false ∧ d.depth ≤ 64 ∧
    d.shown.length ≤ sizeLine ∧ Q (.str d.shown) H
theorem cr_repr {X : Cx} (hg : X.A.guards = some []) (hu : X.A.units + 66 < cLine) :
    CallR X (.builtin "repr") (rRepr X.K) := by
  intro pins s σ H xs us Q I r h
  obtain ⟨x, d, rfl, hd, hs, hn, h64, hz, q⟩ := h
  cases r with
  | cons rx rn =>
    cases rn
    rename_i u
    obtain ⟨as, rd⟩ := Dp.reads I d x u hd rx
    have hsm : d.hasDict = true → sysModules ∉ as := fun z => by rw [hn] at z; cases z
    have out : ∀ (h' : Heap) (tk : Nat) (t : Tok), (∀ b o, s.heap.get? b = some o → h'.get? b = some o) →
        EP X pins σ Q (.str d.shown t) { s with heap := h', toks := tk } := fun h' tk t k =>
      ⟨.str d.shown, H, I.kept k, ⟨t, rfl⟩, q⟩
    cases rd with
    | none => exact P.repr_of_none (out s.heap _ _ fun _ _ e => e)
    | bool b => exact P.repr_of_bool (by simpa only [PyData.shown] using out s.heap (s.toks + 1) s.toks fun _ _ e => e)
    | int i t =>
      exact P.repr_of_int (by simpa [PyData.showable] using hs)
        (by simpa only [PyData.shown] using out s.heap (s.toks + 1) s.toks fun _ _ e => e)
    | str z t =>
      exact P.repr_of_str (by simpa only [PyData.shown] using out s.heap (s.toks + 1) s.toks fun _ _ e => e)
        (by simpa only [PyData.shown] using hz)
    | list h1 h2 h3 h4 =>
      exact repr_of_reads' (.list h1 h2 h3 h4) hs hsm hg (by omega) (fun _ _ e => e)
        (fun h' u tk k => out h' tk u k) hz
    | tuple h1 h2 h3 h4 =>
      exact repr_of_reads' (.tuple h1 h2 h3 h4) hs hsm hg (by omega) (fun _ _ e => e)
        (fun h' u tk k => out h' tk u k) hz
    | dict h1 h2 h3 h4 h5 => cases hn
end KX

namespace PySem
namespace ErrX
open PySem.W PySem.Calls PyProof.Rows PySem.HandSPX
/-! ### the text of __init__ -/
def iA (p1 p2 : Pos) : Arguments := { posonlyargs := [], args := [{ arg := "self", annotation := none, pos := p1 }, { arg := "at", annotation := none, pos := p2 }], vararg := none, kwonlyargs := [], kw_defaults := [], kwarg := none, defaults := [] }
def iB (q1 q2 q3 q4 : Pos) : List Stmt := [.Assign [.Attribute (.Name "self" q1) "at" q2] (.Name "at" q3) q4]
def iS : Scope := { kind := .function, names := [(PySem.Str.ofString "self", .local), (PySem.Str.ofString "at", .local)], isGenerator := false, isCoroutine := false, more := [] }
/-- what the written part says of Low, at C, and of its __init__, at fI -/
structure ErrTxt (K : Frag) (mg : Str → Option Value) (en qn : Str) (C fI : Addr) : Prop where
  gC : mg en = some (.ref C)
  cls : ∃ nm q N bs bm sn sub ab col dd k0 k1 k2 k3 k5, K.lookup C = some (excClassObj nm q C N bs bm true sn sub ab col dd k0 k1 k2 k3 k5 "ValueError.__new__") ∧ refsVE bm = true
  sa : findIn K (.ref C) "__setattr__" = some (some (.builtin "object.__setattr__"))
  ga : findIn K (.ref C) "__getattribute__" = some (some (.builtin "BaseException.__getattribute__"))
  gg : findIn K (.ref C) "__getattr__" = some none
  noN : findIn K (.ref C) "at" = some none
  iC : findIn K (.ref C) "__init__" = some (some (.ref fI))
  tC : typeIn K (.ref fI) = some (.type "function")
  kC : keepIn K (.ref C) = true
  exC : subIn K (.ref C) (.type "BaseException") = some true
  tyC : typeIn K (.ref C) = some (.type "type")
  hdC : hasDictIn K C = true
  te : exmOne K (.ref C) (.ref C) = some true
  fn : ∃ (oc : Value) (od : Option Addr) (doc pm : Value) (an : Option Addr) (cdv ct : Value) (osl : Array (Option Value)) (p1 p2 q1 q2 q3 q4 : Pos),
    K.lookup fI = some ⟨oc, od, .func (fnOf "__init__" qn (iA p1 p2) (iB q1 q2 q3 q4) iS .none .none doc pm an cdv ct), osl⟩ ∧ codeIn K cdv qn = true
theorem one_size (v : Value) : [v].length ≤ sizeLine := by
  rw [sizeLine_eq]
  exact (by decide : 1 ≤ 16777216)
theorem kept_but {K : Frag} {h h' : Heap} {x : Addr} (X : K.In h) (hx : K.lookup x = none) (k : ∀ b o, b ≠ x → h.get? b = some o → h'.get? b = some o) : K.In h' := fun a o e =>
  k a o (fun z => by rw [z, hx] at e; cases e) (X a o e)
theorem ldC {M : Model} {s : Shared} {name : Str} {scope : Scope} {L a : Addr} {cd : Value} {m : Str → Option Value} {x : Str} {pos : Pos} {v : Value} {Q : Value → Shared → Prop} {A : Around} {E : Value → Shared → Prop} (hn : s.heap.Ns L m) (hv : m x = some v) (h : Q v s)
    (hk : scope.kind = .function := by rfl) (hl : (envOfC name scope L a cd).kindOf x = some .local := by rfl) (hd : (x == ("__debug__" : Str)) = false := by decide) :
    wpAny M A (eval (.Name x pos) (envOfC name scope L a cd)) Q E s := wpAny_Name (wpAny_loadName_local hk hl hn hv h) hd
/-- what __init__ leaves of a fresh exception at x -/
structure InitEnd (h h' : Heap) (x C dx t1 : Addr) (v : Value) : Prop where
  keep : ∀ b o, b ≠ x → h.get? b = some o → h'.get? b = some o
  obj : h'.get? x = some { cls := .ref C, dict := some dx, data := .fields #[.ref t1, .none, .none, .none, .bool false, .none] }
  dbig : h.objs.size ≤ dx
  dne : dx ≠ x
  ns : h'.Ns1 dx (fun y => if y = "at" then some v else none)
/-- a made Low -/
structure OwnMade (h h' : Heap) (e C d : Addr) (v : Value) : Prop where
  keep : ∀ b o, h.get? b = some o → h'.get? b = some o
  new : h.objs.size ≤ e
  obj : ∃ oe vs, h'.get? e = some oe ∧ oe.cls = .ref C ∧ oe.dict = some d ∧ oe.data = .fields vs ∧ vs[1]? = some .none ∧ vs[2]? = some .none
  dbig : h.objs.size ≤ d
  dne : d ≠ e
  ns : h'.Ns1 d (fun y => if y = "at" then some v else none)
section
variable {prog : Program} {w : World} {A : Around} {E : Value → Shared → Prop} {R : Result → Shared → Prop} {s : Shared} {K : Frag} {mg : Str → Option Value} {C fI : Addr} {en qn : Str}
theorem err_init (T : ErrTxt K mg en qn C fI) {x t0 : Addr} {v : Value} (X : K.In s.heap) (hlim : s.heap.NoLimit) (hx : s.heap.get? x = some (excO C t0)) (hnx : K.lookup x = none) (hroom : A.depth < recursionLimit)
    (hq : ∀ h' tk dx, InitEnd s.heap h' x C dx t0 v → R (.ok (.ret .none)) { s with heap := h', toks := tk }) :
    codeAny (model prog w) A (.call (.ref fI) ⟨[.ref x, v], []⟩) R s := by
  obtain ⟨oc, od, doc, pm, an, cdv, ct, osl, p1, p2, q1, q2, q3, q4, ho, hcd⟩ := T.fn
  obtain ⟨nm, q, N, bs, bm, sn, sub, ab, col, dd, k0, k1, k2, k3, k5, hC, hbm⟩ := T.cls
  have hcl : clsIn K C = some { name := nm, bases := bs, mro := .ref C :: bm, ns := N, qualname := q, hasDict := true, slotNames := sn, subclasses := sub, abstract := ab, collection := col, hasDel := false } := by unfold clsIn; rw [hC] <;> rfl
  refine Att.call_fn (binds := [("self", .ref x), ("at", v)]) X hlim ho hcd hroom (BindsTo.of_eq (by first | rfl | with_unfolding_all rfl)) (by first | rfl | decide | with_unfolding_all rfl) (fun s₁ IC => ?_) rfl rfl rfl
  obtain ⟨h₁, tk₁, rfl⟩ := IC.toInCall.same
  have k : ∀ b o, s.heap.get? b = some o → h₁.get? b = some o := IC.toInCall.keep
  have hn := IC.toInCall.ns
  have hxL : s.heap.objs.size ≠ x := Nat.ne_of_gt (Heap.lt_size hx)
  have X₁ : K.In h₁ := X.keeps k
  have hx₁ := k _ _ hx
  -- self.by = by
  show wpAny _ _ (execs _ _) _ _ _
  refine wpAny_execs_cons (plainObj_wpAny_Assign_Attribute ?_)
  refine ldC (v := v) hn (by first | rfl | with_unfolding_all rfl | kernel_rfl) (ldC (v := .ref x) hn (by first | rfl | with_unfolding_all rfl | kernel_rfl) ?_)
  refine set_plain X₁ (ox := excO C t0) (od := none) ⟨hx₁, rfl, rfl, trivial⟩ T.sa ?_
  refine exc_osa X₁ hx₁ hcl (show refsVE (.ref C :: bm) = true from hbm) rfl T.noN (fun h₃ tk₃ dx k₃ dn dne hx₃ hn₃ => ?_)
  show wpAny _ _ (execs _ _) _ _ _
  have z : s.heap.objs.size < h₁.objs.size := hn.lt
  exact wpAny_execs_nil (hq h₃ tk₃ dx ⟨fun b o hb e => k₃ b o hb (k b o e), hx₃, Nat.le_of_lt (Nat.lt_of_lt_of_le z dn), dne, hn₃⟩)
theorem err_made (T : ErrTxt K mg en qn C fI) {v : Value} (X : K.In s.heap) (hlim : s.heap.NoLimit) (hroom : A.depth + 1 < recursionLimit)
    (hq : ∀ h' tk e d, OwnMade s.heap h' e C d v → R (.ok (.ret (.ref e))) { s with heap := h', toks := tk }) :
    codeAny (model prog w) A (.call (.ref C) ⟨[v], []⟩) R s := by
  obtain ⟨nm, q, N, bs, bm, sn, sub, ab, col, dd, k0, k1, k2, k3, k5, hC, hbm⟩ := T.cls
  obtain ⟨hp, g, dr, tk, os⟩ := s
  have k : ∀ b o, hp.get? b = some o → ((hp.push (kdv_tup [v])).push (excO C hp.objs.size)).get? b = some o := fun b o e => Heap.get?_push_of_some _ (Heap.get?_push_of_some _ e)
  have hget : ((hp.push (kdv_tup [v])).push (excO C hp.objs.size)).get? (hp.objs.size + 1) = some (excO C hp.objs.size) := by heap_get
  have hnx : K.lookup (hp.objs.size + 1) = none := by
    cases e : K.lookup (hp.objs.size + 1) with
    | none => rfl
    | some o =>
      have z : hp.get? (hp.objs.size + 1) = some o := X _ _ e
      exact absurd (Nat.lt_of_succ_lt (Heap.lt_size z)) (Nat.lt_irrefl _)
  refine call_own F.excBase_ValueError (fun X => refsVE_contains X bm hbm) (X _ _ hC) (looks_findIn X T.iC) (fun self => bind_fn X self T.tC) (one_size v) ?_
  refine err_init (s := ⟨(hp.push (kdv_tup [v])).push (excO C hp.objs.size), g, dr, tk, os⟩) T (X.keeps k) (hlim.keeps k) hget hnx ?_ fun h' tk' dx ⟨k', hx, dn, dne, hns⟩ => ?_
  · show A.depth + 1 < recursionLimit
    exact hroom
  · have old : ∀ b o, hp.get? b = some o → h'.get? b = some o := fun b o e => k' b o (Nat.ne_of_lt (Nat.lt_succ_of_lt (Heap.lt_size e))) (k b o e)
    have z : hp.objs.size + 1 + 1 ≤ dx := by
      first
        | (simpa only [Heap.size_push] using dn)
        | exact dn
        | (have q := dn; rw [Heap.size_push, Heap.size_push] at q; exact q)
    exact ⟨rfl, hq h' tk' (hp.objs.size + 1) dx ⟨old, Nat.le_succ _, ⟨_, _, hx, rfl, rfl, rfl, rfl, rfl⟩, Nat.le_trans (Nat.le_trans (Nat.le_succ _) (Nat.le_succ _)) z, dne, hns⟩⟩
end
end ErrX
end PySem
namespace KX
open PySem PySem.Spec PyProof.Rows L2
theorem relO_err {v : V} {v' : Value} (r : RelV v v') (f : Str) : RelO (List.lookup f [(("at" : Str), v)]) (if f = "at" then some v' else none) := by
  by_cases hw : f = "at"
  · subst hw
    rw [if_pos rfl]
    have q : List.lookup ("at" : Str) [(("at" : Str), v)] = some v := by simp [List.lookup]
    rw [q]
    exact r
  · rw [if_neg hw]
    have qw : (f == ("at" : Str)) = false := by simpa using hw
    have q2 : List.lookup f [(("at" : Str), v)] = none := by simp [List.lookup, qw]
    rw [q2]
    trivial
section
variable {X : Cx} {C fI : Addr} {en qn : Str}
/-- Low(e) -/
def tMkErr (C : Addr) (ta : TA) : L2.St → Hp → XK → Prop := fun σ H Q => ta σ H fun vs H1 => ∃ v, vs = [v] ∧ ∀ d, H1 d = none → Q (.ref C) (some d) (upd H1 d (.xd [(("at" : Str), v)]))
theorem pmk_err {a : Expr} {ta : TA} {p pos : Pos} {k : Nat} (T : PySem.ErrX.ErrTxt X.K X.mg en qn C fI) (hr : Room k X.A) (ha : PA X [a] ta) (hg : Gl X en := by rfl) (hdb : (en == ("__debug__" : Str)) = false := by decide)
    (he : starEach (a :: []) X.env = (false, eval a X.env) :: starEach [] X.env := by rfl) (hpl : (backTo pos (starEach [] X.env)).any (·.1) = false := by rfl) :
    L2N.PMk X (.Call (.Name en p) [a] [] pos) (tMkErr C ta) := by
  intro pins s σ H Q I h
  refine wpAny_Call_Name_kw (ld_glob I hg T.gC ?_ hdb)
  refine PySem.W.callWith_K (h₀ := X.base) I.ok.mod.kin T.kC (thn (ha.run pos pins s σ H _ I h) fun us s1 hh => ?_) he hpl
  obtain ⟨vs, H1, I1, r1, v, ev, q1⟩ := hh
  subst ev
  refine ⟨I1.kIn, ?_⟩
  cases r1 with
  | cons rv rn =>
    rename_i v' us'
    cases rn
    show wpAny _ _ (call (.ref C) [v']) _ _ _
    have hlim := I1.nolimit
    obtain ⟨hp, g, dr, tk, os⟩ := s1
    refine wpAny_call (PySem.ErrX.err_made T I1.kIn hlim (by have := hr.dp; omega) fun h' tk' e d M => ?_)
    show L2N.MkP X pins σ Q (.ref e) ⟨h', g, dr, tk', os⟩
    obtain ⟨oe, fv, hoe, hc, hd, hdat, h1, h2⟩ := M.obj
    have hns := M.ns
    obtain ⟨G', g1, g2⟩ := restrict h' fun b => decide (b ≠ e)
    have gk : ∀ b, b ≠ e → G'.get? b = h'.get? b := fun b hb => g1 b (decide_eq_true hb)
    have ge : G'.get? e = none := g2 e (by simp)
    have old : ∀ b o, hp.get? b = some o → G'.get? b = some o := fun b o q => (gk b (Nat.ne_of_lt (Nat.lt_of_lt_of_le (Heap.lt_size q) M.new))).trans (M.keep b o q)
    have ob : ObjOk X.prog X.w (upd H1 d (.xd [(("at" : Str), v)])) G' d (.xd [(("at" : Str), v)]) :=
      ⟨_, hns.at (fun o q => (gk d M.dne).trans q), fun f => relO_err rv f⟩
    have J : Inv X pins σ (upd H1 d (.xd [(("at" : Str), v)])) ⟨G', g, dr, tk', os⟩ := I1.laid (t' := tk') old M.dbig ob
    refine ⟨e, oe, fv, ⟨G', g, dr, tk', os⟩, _, .ref C, some d, rfl, J, fun b o q => ?_, ge, hoe, ⟨hc, hd, fun vs' z => by rw [hdat] at z; cases z; exact h2⟩, hdat, h1, ?_, rfl, I1.bare, raises_own T.exC T.tyC, q1 d (I1.hok.fresh M.dbig)⟩
    · by_cases hb : b = e
      · have q' : G'.get? b = some o := q
        rw [hb, ge] at q'; cases q'
      · exact (gk b hb).symm.trans q
    · rw [upd_ne (Ne.symm M.dne)]
      exact I1.hok.fresh M.new
/-- raise Low(e) -/
def tRaiseErr (C : Addr) (W : WX) (ta : TA) : TS := fun _ σ H => tMkErr C ta σ H fun cls d H' => W cls d σ H'
theorem ps_raiseErr {a : Expr} {ta : TA} {W : WX} {p pos pos2 : Pos} {k : Nat} (hc : X.calm = true) (T : PySem.ErrX.ErrTxt X.K X.mg en qn C fI) (hr : Room k X.A) (tk : L2N.Takes X W) (ha : PA X [a] ta) (hg : Gl X en := by rfl) (hdb : (en == ("__debug__" : Str)) = false := by decide)
    (he : starEach (a :: []) X.env = (false, eval a X.env) :: starEach [] X.env := by rfl) (hpl : (backTo pos (starEach [] X.env)).any (·.1) = false := by rfl) :
    PS X (.Raise (some (.Call (.Name en p) [a] [] pos)) none pos2) (tRaiseErr C W ta) := L2N.ps_raise hc tk (pmk_err T hr ha hg hdb he hpl)
end
end KX

namespace PySem
namespace ErrX
open PySem.W PySem.Calls PyProof.Rows PySem.HandSPX
def iA0 (p1 : Pos) : Arguments :=
  { posonlyargs := [], args := [{ arg := "self", annotation := none, pos := p1 }], vararg := none,
    kwonlyargs := [], kw_defaults := [], kwarg := none, defaults := [] }
def iS0 : Scope :=
  { kind := .function, names := [(PySem.Str.ofString "self", .local)], isGenerator := false, isCoroutine := false, more := [] }
/-- an error class whose __init__(self) does nothing -/
structure ErrTxt0 (K : Frag) (mg : Str → Option Value) (en qn : Str) (C fI : Addr) : Prop where
  gC : mg en = some (.ref C)
  cls : ∃ nm q N bs bm sn sub ab col dd k0 k1 k2 k3 k5,
    K.lookup C = some (excClassObj nm q C N bs bm true sn sub ab col dd k0 k1 k2 k3 k5 "ValueError.__new__") ∧ refsVE bm = true
  iC : findIn K (.ref C) "__init__" = some (some (.ref fI))
  tC : typeIn K (.ref fI) = some (.type "function")
  kC : keepIn K (.ref C) = true
  exC : subIn K (.ref C) (.type "BaseException") = some true
  tyC : typeIn K (.ref C) = some (.type "type")
  fn : ∃ (oc : Value) (od : Option Addr) (doc pm : Value) (an : Option Addr) (cdv ct : Value) (osl : Array (Option Value)) (p1 q1 : Pos),
    K.lookup fI = some ⟨oc, od, .func (fnOf "__init__" qn (iA0 p1) [.Pass q1] iS0 .none .none doc pm an cdv ct), osl⟩ ∧
      codeIn K cdv qn = true
/-- what is made: an exception without a dict -/
structure OwnMade0 (h h' : Heap) (e C : Addr) : Prop where
  keep : ∀ b o, h.get? b = some o → h'.get? b = some o
  new : h.objs.size ≤ e
  obj : ∃ oe vs, h'.get? e = some oe ∧ oe.cls = .ref C ∧ oe.dict = none ∧ oe.data = .fields vs ∧ vs[1]? = some .none ∧
    vs[2]? = some .none
section
variable {prog : Program} {w : World} {A : Around} {E : Value → Shared → Prop} {R : Result → Shared → Prop}
  {s : Shared} {K : Frag} {mg : Str → Option Value} {C fI : Addr} {en qn : Str}
theorem err_init0 (T : ErrTxt0 K mg en qn C fI) {x : Addr} (X : K.In s.heap) (hlim : s.heap.NoLimit)
    (hroom : A.depth < recursionLimit)
    (hq : ∀ h' tk, (∀ b o, s.heap.get? b = some o → h'.get? b = some o) → R (.ok (.ret .none)) { s with heap := h', toks := tk }) :
    codeAny (model prog w) A (.call (.ref fI) ⟨[.ref x], []⟩) R s := by
  obtain ⟨oc, od, doc, pm, an, cdv, ct, osl, p1, q1, ho, hcd⟩ := T.fn
  refine Att.call_fn (binds := [("self", .ref x)]) X hlim ho hcd hroom
    (BindsTo.of_eq (by first | rfl | with_unfolding_all rfl)) (by first | rfl | decide | with_unfolding_all rfl)
    (fun s₁ IC => ?_) rfl rfl rfl
  obtain ⟨h₁, tk₁, rfl⟩ := IC.toInCall.same
  show wpAny _ _ (execs _ _) _ _ _
  refine wpAny_execs_cons ?_
  refine wpAny_Pass ?_
  show wpAny _ _ (execs _ _) _ _ _
  exact wpAny_execs_nil (hq h₁ tk₁ IC.toInCall.keep)
theorem err_made0 (T : ErrTxt0 K mg en qn C fI) (X : K.In s.heap) (hlim : s.heap.NoLimit) (hroom : A.depth + 1 < recursionLimit)
    (hq : ∀ h' tk e, OwnMade0 s.heap h' e C → R (.ok (.ret (.ref e))) { s with heap := h', toks := tk }) :
    codeAny (model prog w) A (.call (.ref C) ⟨[], []⟩) R s := by
  obtain ⟨nm, q, N, bs, bm, sn, sub, ab, col, dd, k0, k1, k2, k3, k5, hC, hbm⟩ := T.cls
  obtain ⟨hp, g, dr, tk, os⟩ := s
  have k : ∀ b o, hp.get? b = some o → ((hp.push (kdv_tup [])).push (excO C hp.objs.size)).get? b = some o :=
    fun b o e => Heap.get?_push_of_some _ (Heap.get?_push_of_some _ e)
  have hget : ((hp.push (kdv_tup [])).push (excO C hp.objs.size)).get? (hp.objs.size + 1) = some (excO C hp.objs.size) := by
    heap_get
  refine call_own F.excBase_ValueError (fun X => refsVE_contains X bm hbm) (X _ _ hC) (looks_findIn X T.iC)
    (fun self => bind_fn X self T.tC) (Nat.zero_le _) ?_
  refine err_init0 (s := ⟨(hp.push (kdv_tup [])).push (excO C hp.objs.size), g, dr, tk, os⟩) T (X.keeps k) (hlim.keeps k) ?_
    fun h' tk' k' => ?_
  · show A.depth + 1 < recursionLimit
    exact hroom
  · exact ⟨rfl, hq h' tk' (hp.objs.size + 1) ⟨fun b o e => k' b o (k b o e), Nat.le_succ _,
      ⟨_, _, k' _ _ hget, rfl, rfl, rfl, rfl, rfl⟩⟩⟩
end
end ErrX
end PySem

namespace KX
open PySem PySem.Spec PyProof.Rows L2
section
variable {X : Cx} {C fI : Addr} {en qn : Str}
def tMkErr0 (C : Addr) : L2.St → Hp → XK → Prop := fun _ H Q => Q (.ref C) none H
theorem pmk_err0 {p pos : Pos} {k : Nat} (T : PySem.ErrX.ErrTxt0 X.K X.mg en qn C fI) (hr : Room k X.A) (hg : Gl X en := by rfl)
    (hdb : (en == ("__debug__" : Str)) = false := by decide) : L2N.PMk X (.Call (.Name en p) [] [] pos) (tMkErr0 C) := by
  intro pins s σ H Q I h
  refine wpAny_Call_Name_kw (ld_glob I hg T.gC ?_ hdb)
  refine PySem.W.callWith_K0 I.kIn T.kC ?_
  show wpAny _ _ (call (.ref C) []) _ _ _
  have hlim := I.nolimit
  have KX := I.kIn
  obtain ⟨hp, g, dr, tk, os⟩ := s
  refine wpAny_call (PySem.ErrX.err_made0 T KX hlim (by have := hr.dp; omega) fun h' tk' e M => ?_)
  show L2N.MkP X pins σ Q (.ref e) ⟨h', g, dr, tk', os⟩
  obtain ⟨oe, fv, hoe, hc, hd, hdat, h1, h2⟩ := M.obj
  refine ⟨e, oe, fv, ⟨hp, g, dr, tk, os⟩, H, .ref C, none, rfl, I, M.keep, Heap.get?_none_of_le M.new, hoe,
    ⟨hc, hd, fun vs' z => by rw [hdat] at z; cases z; exact h2⟩, hdat, h1, I.hok.fresh M.new, rfl, I.bare,
    raises_own T.exC T.tyC, h⟩
def tRaiseErr0 (C : Addr) (W : WX) : TS := fun _ σ H => W (.ref C) none σ H
theorem ps_raiseErr0 {W : WX} {p pos pos2 : Pos} {k : Nat} (hc : X.calm = true) (T : PySem.ErrX.ErrTxt0 X.K X.mg en qn C fI)
    (hr : Room k X.A) (tk : L2N.Takes X W) (hg : Gl X en := by rfl) (hdb : (en == ("__debug__" : Str)) = false := by decide) :
    PS X (.Raise (some (.Call (.Name en p) [] [] pos)) none pos2) (tRaiseErr0 C W) :=
  L2N.ps_raise hc tk (pmk_err0 T hr hg hdb)
end
end KX

namespace KX
open PySem PySem.Spec PyProof.Rows L2 L2H
/-! contracts under a condition C on the call's surroundings -/
abbrev Con := Around → List Env → Shared → Hp → Prop
structure FnR (P : Program) (w : World) (K : PySem.W.Frag) (mg : Str → Option Value) (base : Heap) (CX : CXT) (C : Con)
    (f : Addr) (fd : FuncData) (ps : List Str) (sp : Sp) : Prop where
  sized : ∀ vs H Q E, sp vs H Q E → vs.length = ps.length
  does : ∀ (A : Around) (outer : List Env) (s : Shared) (H : Hp) (args : Args) (us : List Value) (vs : List V) (Q : VK) (E : XK),
    C A outer s H → Env0 P w K mg base A outer s H → BindsTo s fd args (ps.zip us) → Vals vs us → sp vs H Q E →
      codeAny (model P w) A (.call (.ref f) args) (CR CX outer P w H s Q E) s
/-- no repr is under way -/
def CG (k : Nat) : Con := fun A _ _ _ => Room k A ∧ A.guards = some []
/-- p is the exception that is handled -/
def CP (k : Nat) (p : Addr × Obj) : Con := fun A outer s H => RoomH k A ∧ Hot1 A p ∧ PinOk outer H s p
/-- a body's context, calm or not, with pins -/
abbrev cxV (c : Bool) (pn : List (Addr × Obj)) (X : Cx) : Cx := { X with calm := c, pn := pn }
section
variable {CX : CXT} {P : Program} {w : World} {K : PySem.W.Frag} {mg : Str → Option Value} {base : Heap} {f : Addr}
  {name qual : Str} {params : Arguments} {body : List Stmt} {scope : Scope} {dV kV doc pm cdv ct oc : Value}
  {an od : Option Addr} {osl : Array (Option Value)} {N ps : List Str}
theorem call_body {A : Around} {outer : List Env} {s : Shared} {H : Hp} {args : Args} {us : List Value} {vs : List V} {Q : VK}
    {E : XK} {c : Bool} {pn : List (Addr × Obj)}
    (lk : K.lookup f = some ⟨oc, od, .func (PySem.W.fnOf name qual params body scope dV kV doc pm an cdv ct), osl⟩)
    (hcd : PySem.W.codeIn K cdv qual = true) (S : FnScope N ps scope) (hdp : A.depth < recursionLimit)
    (e0 : Env0 P w K mg base A outer s H)
    (hb : BindsTo s (PySem.W.fnOf name qual params body scope dV kV doc pm an cdv ct) args (ps.zip us))
    (begins : ∀ s1, InCallC s s.heap.objs.size
        (bindL (envOfC qual scope s.heap.objs.size f cdv).kindOf (ps.zip us) fun _ => none)
        (cellsFrom (s.heap.objs.size + 1) scope.names [])
        (bindC (envOfC qual scope s.heap.objs.size f cdv).kindOf (ps.zip us) fun _ => none) s1 →
      L2.Inv (cxV c pn (cxOf CX P w K mg base N qual scope f cdv A outer s H E)) [] (L2.start N vs) H s1)
    (reads : ∃ t, PSs (cxV c pn (cxOf CX P w K mg base N qual scope f cdv A outer s H E)) body t ∧
      t { nx := fun _ H' => Q .non H', rt := Q } (L2.start N vs) H) :
    codeAny (model P w) A (.call (.ref f) args) (CR CX outer P w H s Q E) s := by
  have stays : ∀ b o, base.get? b = some o → s.heap.get? b = some o := fun b o e => (e0.bs b o e).1
  have KI := e0.mod.kin.keeps stays
  have NL := e0.mod.nolimit.keeps stays
  refine codeAny_call_function hdp (KI _ _ lk) rfl S.co S.gen rfl
    (PySem.W.codeRec_of KI hcd) (hb _ _ _ _ ?_)
  refine wpAny_newFunctionEnv_cells S.kind (fun y hy => ?_) fun env he s1 x => ?_
  · obtain ⟨n, v⟩ := y
    cases S.par n (List.of_mem_zip hy).1 with
    | inl q => exact Or.inl q
    | inr q => exact Or.inr ⟨q, PySem.W.cellsFrom_some _ _ _ (Or.inl q)⟩
  · subst he
    obtain ⟨t, ht, hq⟩ := reads
    have I := begins s1 x
    refine ⟨NL.keeps x.toInCall.keep, codeAny_func (wpAny_mono (ht.run [] s1 (L2.start N vs) H _ I hq)
      (fun fl s' hs => ?_) fun e s' hs => hs)⟩
    cases fl with
    | ret u =>
      obtain ⟨v, σ', H', J, rv, q⟩ := hs
      exact ⟨v, H', J.os, J.bare, J.base, J.hok, rv, q⟩
    | next =>
      obtain ⟨σ', H', J, q⟩ := hs
      exact ⟨V.non, H', J.os, J.bare, J.base, J.hok, rfl, q⟩
    | brk => exact False.elim hs.choose_spec.choose_spec.2
    | cont => exact False.elim hs.choose_spec.choose_spec.2
/-- a def under CG -/
theorem fnG_of {k : Nat} {sp : Sp}
    (lk : K.lookup f = some ⟨oc, od, .func (PySem.W.fnOf name qual params body scope dV kV doc pm an cdv ct), osl⟩)
    (hcd : PySem.W.codeIn K cdv qual = true) (S : FnScope N ps scope)
    (sized : ∀ vs H Q E, sp vs H Q E → vs.length = ps.length)
    (reads : ∀ (A : Around) (outer : List Env) (s : Shared) (H : Hp) (vs : List V) (Q : VK) (E : XK),
      Room k (A.deeper (envOfC qual scope s.heap.objs.size f cdv)) → A.guards = some [] → sp vs H Q E →
      ∃ t, PSs (cxOf CX P w K mg base N qual scope f cdv A outer s H E) body t ∧
        t { nx := fun _ H' => Q .non H', rt := Q } (L2.start N vs) H) :
    FnR P w K mg base CX (CG (k + 1)) f (PySem.W.fnOf name qual params body scope dV kV doc pm an cdv ct) ps sp :=
  ⟨sized, fun A outer s H args us vs Q E hc e0 hb r h =>
    call_body (c := true) (pn := []) lk hcd S hc.1.depth e0 hb
      (fun s1 x => inv_start S hc.1.hd e0 (sized _ _ _ _ h) r x) (reads A outer s H vs Q E (hc.1.deeper _) hc.2 h)⟩
/-- a def under CP -/
theorem fnP_of {k : Nat} {sp : Sp} {p : Addr × Obj}
    (lk : K.lookup f = some ⟨oc, od, .func (PySem.W.fnOf name qual params body scope dV kV doc pm an cdv ct), osl⟩)
    (hcd : PySem.W.codeIn K cdv qual = true) (S : FnScope N ps scope)
    (sized : ∀ vs H Q E, sp vs H Q E → vs.length = ps.length)
    (reads : ∀ (A : Around) (outer : List Env) (s : Shared) (H : Hp) (vs : List V) (Q : VK) (E : XK), Hot1 A p →
      RoomH k (A.deeper (envOfC qual scope s.heap.objs.size f cdv)) → sp vs H Q E →
      ∃ t, PSs (cxV false [p] (cxOf CX P w K mg base N qual scope f cdv A outer s H E)) body t ∧
        t { nx := fun _ H' => Q .non H', rt := Q } (L2.start N vs) H) :
    FnR P w K mg base CX (CP (k + 1) p) f (PySem.W.fnOf name qual params body scope dV kV doc pm an cdv ct) ps sp :=
  ⟨sized, fun A outer s H args us vs Q E hc e0 hb r h =>
    call_body (c := false) (pn := [p]) lk hcd S hc.1.depth e0 hb
      (fun s1 x => inv_startH S hc.2.2 e0 (sized _ _ _ _ h) r x)
      (reads A outer s H vs Q E hc.2.1 (hc.1.deeper _) h)⟩
end
section
variable {X : Cx} {CX : CXT} {C : Con} {f : Addr} {fd : FuncData} {ps : List Str} {sp : Sp} {E : XK} {x : Str} {p pos : Pos}
  {e : Expr} {es : List Expr} {t : TA}
/-- a call of such a def -/
theorem pe_callR (F : FnR X.prog X.w X.K X.mg X.base CX C f fd ps sp)
    (hC : ∀ pins σ H s, L2.Inv X pins σ H s → C X.A X.stack s H) (hg : Gl X x) (hm : X.mg x = some (.ref f))
    (hk : PySem.W.keepIn X.K (.ref f) = true) (hb : Binds X.K fd ps []) (hx : Passes CX X E) (ha : PA X (e :: es) t)
    (hdb : (x == ("__debug__" : Str)) = false := by decide)
    (he : starEach (e :: es) X.env = (false, eval e X.env) :: starEach es X.env := by rfl)
    (hpl : (backTo pos (starEach es X.env)).any (·.1) = false := by rfl) :
    PE X (.Call (.Name x p) (e :: es) [] pos) (tCall sp [] E t) := by
  refine ⟨fun pins s σ H Q I h => wpAny_Call_Name_kw (ld_glob I hg hm ?_ hdb)⟩
  refine PySem.W.callWith_K (h₀ := X.base) I.ok.mod.kin hk
    (thn (ha.run pos pins s σ H _ I h) fun us s1 hh => ?_) he hpl
  obtain ⟨vs, H1, I1, r, q⟩ := hh
  rw [List.append_nil] at q
  have hl : (us ++ []).length = ps.length := by
    rw [List.append_nil, ← r.length]
    exact F.sized _ _ _ _ q
  have b := hb s1 us I1.kIn hl
  rw [List.append_nil] at b
  refine ⟨I1.kIn, wpAny_call (codeAny_mono
    (F.does X.A X.stack s1 H1 ⟨us, []⟩ us vs Q E (hC _ _ _ _ I1) I1.env0 b r q) fun r s' hq => ?_)⟩
  match r, hq with
  | .error e, hq => exact hx pins σ H1 s1 e s' I1 hq
  | .ok (.ret u), hq => exact I1.after hq
end
end KX

namespace KX
open PySem PySem.Spec PyProof.Rows L2 L2H
/-! in an except suite -/
theorem hot_suite {X : Cx} {a : Addr} {oe : Obj} {cls : Value} {d : Option Addr} {pn : List (Addr × Obj)}
    (hz : L2N.Zn cls d oe) (hf : ∃ vs, oe.data = .fields vs) : HotC (X.suite a ((a, oe) :: pn)) := by
  obtain ⟨vs, hv⟩ := hf
  exact ⟨(a, oe), ⟨rfl, vs, hv, hz.2.2 vs hv⟩, List.mem_cons_self⟩
/-- the dict of the exception, if any, is tracked -/
def DictIs (d : Option Addr) (H : Hp) : Prop := d = none ∨ ∃ dd fs, d = some dd ∧ H dd = some (.xd fs)
/-- isinstance(e, c), e pinned -/
def rIsP (K : PySem.W.Frag) (D a : Addr) (d : Option Addr) : List V → Hp → VK → Prop := fun xs H Q =>
  DictIs d H ∧ ∃ (c : V) (cv : Value) (b : Bool), xs = [.ref a, c] ∧ (∀ u, RelV c u → u = cv) ∧
    PySem.W.kitOne K (.ref D) cv = some b ∧ Q (.bl b) H
theorem call_isP {X : Cx} {a D : Addr} {oe : Obj} {d : Option Addr} (C : ExcC X.K D) (hp : (a, oe) ∈ X.pn)
    (hz : Zc (.ref D) d oe) (hf : ∃ vs, oe.data = .fields vs) : CallR X (.builtin "isinstance") (rIsP X.K D a d) := by
  intro pins s σ H xs us Q I r h
  obtain ⟨hd, c, cv, b, rfl, hcv, e, q⟩ := h
  cases r with
  | cons rx rr =>
    cases rr with
    | cons rt rr =>
      cases rr
      cases rx
      have ec := hcv _ rt
      subst ec
      obtain ⟨hget, _⟩ := I.pin (a, oe) (List.mem_append_left _ hp)
      obtain ⟨vs, hv⟩ := hf
      obtain ⟨od, J⟩ : ∃ od, PySem.W.InstAt s.heap a oe D od := by
        rcases hd with hd | ⟨dd, fs, hd, hH⟩
        · refine ⟨none, hget, hz.1, by unfold PySem.W.notCls; rw [hv] <;> rfl, ?_⟩
          rw [hz.2, hd]
          trivial
        · have hx : ObjOk X.prog X.w H s.heap dd (.xd fs) := I.hok dd _ hH
          obtain ⟨mA, hns, _⟩ := hx
          obtain ⟨od, ho, _⟩ := lookIn_ns hns
          refine ⟨some od, hget, hz.1, by unfold PySem.W.notCls; rw [hv] <;> rfl, ?_⟩
          rw [hz.2, hd]
          exact ho
      have hcl : (PySem.W.clsIn X.K D).isSome = true := by
        obtain ⟨cd, hc, _⟩ := PySem.W.any_some C.hd
        rw [hc]
        rfl
      exact PySem.W.kia_one (PySem.W.kitx_exc (od := od) (ox := oe) hcl C.hg C.hk C.hs C.ha C.hn C.ht C.hm) I.kIn J e
        (fun z => nomatch z) fun tk => ⟨.bl b, H, I.kept (t' := tk) fun _ _ z => z, rfl, q⟩
/-! a list comprehension there -/
section
variable {X : Cx}
/-- the block's context, the handled exception pinned -/
abbrev hblk (X : Cx) (p : Addr × Obj) (s : Shared) (H : Hp) (scope : Scope) (ce : Env) (fp : List Addr) : Cx :=
  (X.blk s H scope ce fp).tr ([] ++ [p]) (fun _ _ => False)
theorem to_hblk {p : Addr × Obj} {s s' : Shared} {H H' : Hp} {scope : Scope} {ce : Env} {fp : List Addr} {σ : L2.St}
    (I : L2.Inv (X.blk s H scope ce fp) [] σ H' s')
    (h : s'.heap.get? p.1 = some p.2 ∧ H' p.1 = none ∧ p.1 ≠ ce.locals ∧ p.1 ∉ (X.blk s H scope ce fp).fs ∧ ∀ v, p.2.data ≠ .cell v) :
    L2.Inv (hblk X p s H scope ce fp) [] σ H' s' :=
  (I.pins_of (pins' := [p]) fun q hq => by rw [List.mem_singleton.mp hq]; exact h).toTry _
theorem hblk_hot {p : Addr × Obj} {s : Shared} {H : Hp} {scope : Scope} {ce : Env} {fp : List Addr} (h : Hot1 X.A p) :
    HotC (hblk X p s H scope ce fp) := ⟨p, h, by simp⟩
theorem pe_lcHot {p : Addr × Obj} {elt tg iter : Expr} {scope : Scope} {own : List (Str × Nat)} {pos : Pos} {wi : TI} {g : TG}
    {te : TE} (hot : Hot1 X.A p) (hp : p ∈ X.pn) (hN : X.N.Nodup) (hi : PIH X tg iter wi) (ok : BlkOk X.N X.env.scope scope own)
    (hg : ∀ s H C cl fp, PG (hblk X p s H scope (compEnvC scope cl C X.env) fp) tg g)
    (he : ∀ s H C cl fp, PE (hblk X p s H scope (compEnvC scope cl C X.env) fp) elt te)
    (hs : ∀ x, foldedSetIterable iter X.env x = pure x := by intro _; rfl) :
    PE X (.ListComp elt [⟨tg, iter, [], 0⟩] scope pos) (tLc wi g tYes te (own.map (·.2))) := by
  refine ⟨fun pins s σ H Q I h => ?_⟩
  rw [eval_ListComp]
  have free : ∀ y ∈ scope.names, y.2 = .free → ∃ c, X.env.cells.lookup y.1 = some c := fun y hy e =>
    (ok.free y hy e).elim (fun k => I.ok.has _ (Or.inl k)) fun k => I.ok.has _ (Or.inr k)
  refine wpAny_comprehension_free (use := none) rfl hs (closure_ok free) ok.kind
    (fun y hy e => by rw [ok.uniq y hy, e])
    (thn (hi.run pins s σ H _ I h) fun xv s1 hx => thn hx fun itv s2 h2 => ?_)
  obtain ⟨it, fp, tn, J, H2, e, I2, T, st2, f2, q⟩ := h2
  subst e
  refine wpAny_newObj_type (newEnv_comp ?_) (by show 0 ≤ sizeLine; decide)
  generalize hD : s2.heap.objs.size = D
  have hDn : H2 D = none := I2.hok.fresh (Nat.le_of_eq hD)
  obtain ⟨W, ⟨m0, w0⟩, turn⟩ := q D hDn
  generalize hs3 : ({ s2 with heap := s2.heap.push { cls := .type "list", data := .seq ([] : List Value).toArray } } : Shared) = s3
  have k23 : ∀ b o, s2.heap.get? b = some o → s3.heap.get? b = some o := fun b o e => by
    rw [← hs3]
    exact Heap.get?_push_of_some _ e
  have I3 : L2.Inv X pins σ (upd H2 D (.lst [])) s3 := by
    rw [← hs3]
    refine I2.laid (t' := s2.toks) (fun b o e => Heap.get?_push_of_some _ e) (Nat.le_of_eq hD)
      ⟨Nat.zero_le _, [], 0, .nil, ?_⟩
    rw [← hD]
    exact Heap.get?_push_size _ rfl
  have sz3 : s3.heap.objs.size = s2.heap.objs.size + 1 := by rw [← hs3]; exact Heap.size_push ..
  have P3 := I3.pin p (List.mem_append_left _ hp)
  have small : ∀ b ∈ fp, b < s2.heap.objs.size := fun b hb =>
    let ⟨_, e, _⟩ := T.obj _ _ st2 b hb
    Heap.lt_size e
  have f3 : ∀ b ∈ fp, FpOk X pins (upd H2 D (.lst [])) b ∧ b < s3.heap.objs.size := fun b hb => by
    have hlt := small b hb
    refine ⟨⟨?_, (f2 b hb).2⟩, by rw [sz3]; exact Nat.lt_succ_of_lt hlt⟩
    rw [upd_ne (by rw [← hD]; exact Nat.ne_of_lt hlt)]
    exact (f2 b hb).1
  have st3 : tn 0 s3.heap := T.keep _ _ _ st2 fun b _ o e => k23 b o e
  have I4' := block_start I3 ok hN f3
  show codeAny _ _ (.compStart (.ListComp elt [⟨tg, iter, [], 0⟩] scope pos) 0 (.ref it) (.ref D)
      (compEnvC scope (cellsFrom (s3.heap.objs.size + 1) scope.names (cloFrom X.env.cells scope.names [])) s3.heap.objs.size X.env))
    (compPost (model X.prog X.w) X.A X.xe none (EP X pins σ Q) (.ref D) s3.heap.objs.size)
    { s3 with heap := pushCells (s3.heap.push { cls := .type "dict", data := .dict #[] }) scope.names }
  have pg := hg s3 (upd H2 D (.lst [])) s3.heap.objs.size
    (cellsFrom (s3.heap.objs.size + 1) scope.names (cloFrom X.env.cells scope.names [])) fp
  have pe := he s3 (upd H2 D (.lst [])) s3.heap.objs.size
    (cellsFrom (s3.heap.objs.size + 1) scope.names (cloFrom X.env.cells scope.names [])) fp
  generalize hce : compEnvC scope (cellsFrom (s3.heap.objs.size + 1) scope.names
    (cloFrom X.env.cells scope.names [])) s3.heap.objs.size X.env = ce at I4' pg pe ⊢
  have cL : ce.locals = s3.heap.objs.size := by subst hce; rfl
  generalize hH3 : upd H2 D (.lst []) = H3 at I3 I4' pg pe w0 f3 P3
  generalize hs4 : ({ s3 with heap := pushCells (s3.heap.push { cls := .type "dict", data := .dict #[] }) scope.names } : Shared) = s4
    at I4' ⊢
  have k34 : ∀ b o, s3.heap.get? b = some o → s4.heap.get? b = some o := fun b o e => by
    rw [← hs4]
    exact pushCells_keeps _ _ _ _ (Heap.get?_push_of_some _ e)
  have st4 : tn 0 s4.heap := T.keep _ _ _ st3 fun b _ o e => k34 b o e
  have nfs : p.1 ∉ (X.blk s3 H3 scope ce fp).fs := fun hm =>
    (List.mem_cons.mp (I3.stkSub p.1 hm)).elim P3.2.2.1 P3.2.2.2.1
  have I4 : L2.Inv (hblk X p s3 H3 scope ce fp) [] (wipe σ (own.map (·.2))) H3 s4 := to_hblk I4'
    ⟨k34 _ _ P3.1, P3.2.1, by rw [cL]; exact Nat.ne_of_lt (Heap.lt_size P3.1), nfs, P3.2.2.2.2⟩
  have hc : HotC (hblk X p s3 H3 scope ce fp) := hblk_hot hot
  have nfp : ∀ b ∈ fp, H3 b = none := fun b hb => (f3 b hb).1.1
  have stat : ∀ {σ' : L2.St} {H' : Hp} {s' : Shared}, L2.Inv (hblk X p s3 H3 scope ce fp) [] σ' H' s' → (∀ b ∈ fp, H' b = none) →
      ∀ b ∈ fp, FpOk (hblk X p s3 H3 scope ce fp) [] H' b := fun {σ' H' s'} I' hn b hb =>
    ⟨hn b hb, (I'.ok.exf b hb).1, I'.ok.exfs b hb, Or.inl hb, fun x c e => (I'.ok.exf b hb).2 x c e, fun r hr => by
      have er : r = p := by simpa using hr
      rw [er]
      exact (f3 b hb).1.2.2.2.2.2 p (List.mem_append_left _ hp)⟩
  have loop : codeAny (model X.prog X.w) X.A (.compLoop (.ListComp elt [⟨tg, iter, [], 0⟩] scope pos) 0 (.ref it) (.ref D) ce)
      (compPost (model X.prog X.w) X.A X.xe none (EP X pins σ Q) (.ref D) s3.heap.objs.size) s4 := by
    refine compLoop_any (fun n s' => ∃ i H', L2.Inv (hblk X p s3 H3 scope ce fp) [] (wipe σ (own.map (·.2))) H' s' ∧
      tn i s'.heap ∧ (∀ b ∈ fp, H' b = none) ∧ W i n H') ?_ m0 ⟨0, H3, I4, st4, nfp, w0⟩
    rintro n s5 ⟨i, H5, I5, st5, n5, w5⟩
    rcases turn i n H5 w5 with ⟨stop, qq⟩ | ⟨go, Nx, hNx, step⟩
    · refine thnF (T.done (hblk X p s3 H3 scope ce fp) rfl rfl rfl hc i [] s5 _ H5 (fun _ _ => False) I5 (stat I5 n5) st5 stop)
        fun r s6 hr => ?_
      obtain ⟨rfl, I6⟩ := hr
      have I7 : L2.Inv X pins σ H5 s6 := I3.call' (ch := fp) I6.os I6.base I6.hok I6.bare fun b hb =>
        let z := (f3 b hb).1.2
        ⟨z.2.2.1, z.1, z.2.2.2.1, z.2.2.2.2⟩
      have nC : H5 s3.heap.objs.size = none := by rw [← cL]; exact I6.free
      obtain ⟨m, hn, _⟩ := I6.loc
      have hn : s6.heap.Ns s3.heap.objs.size m := by rw [← cL]; exact hn
      obtain ⟨g0, g1, g2, g3, g4, g5⟩ := I3.fpOk (Nat.le_refl _) nC
      exact ⟨m, hn, fun h'' sb => ⟨.ref D, H5,
        I7.turned (t' := s6.toks) (fun b o hb e => (sb.2 b hb).trans e) g0 g1 g3 g4 g5, rfl, qq⟩⟩
    · refine thnF (T.item (hblk X p s3 H3 scope ce fp) rfl rfl rfl hc i [] s5 _ H5 (fun _ _ => False) I5 (stat I5 n5) st5 go)
        fun r s6 hr => ?_
      obtain ⟨u, rfl, h6⟩ := hr
      refine thnF h6 fun _ s7 h7 => ?_
      obtain ⟨x, H7, I7, r7, y7, st7, n7⟩ := h7
      have I7' := I7.pinned (stat I7 n7) (T.obj _ _ st7)
      refine thnF (pg.run _ s7 _ H7 x u _ I7' r7 (step x H7 y7)) fun _ s8 h8 => ?_
      obtain ⟨σ8, H8, I8, hw8, q8⟩ := h8
      refine wpAny_pure ?_
      have q9 : te σ8 H8 fun y H4 => ∃ acc, H4 D = some (.lst acc) ∧ acc.length < sizeLine ∧ Nx (upd H4 D (.lst (acc ++ [y]))) := q8
      simp only [if_true]
      refine thnF (pe.run _ s8 σ8 H8 _ I8 q9) fun z s10 h10 => ?_
      obtain ⟨yv, H10, I10, r10, acc, hD10, hz10, nx⟩ := h10
      refine app_ok (X := hblk X p s3 H3 scope ce fp) I10 hD10 hz10 r10 fun s11 I11 => ?_
      obtain ⟨m', hm, w'⟩ := hNx _ nx
      have kept : ∀ b ∈ fp, ∀ o, s7.heap.get? b = some o → s11.heap.get? b = some o ∧
          (upd H10 D (.lst (acc ++ [yv]))) b = none := fun b hb o e =>
        let z := I11.pin (b, o) (List.mem_append_right _ (List.mem_append_right _ (mem_pinsAt hb e)))
        ⟨z.1, z.2.1⟩
      refine ⟨m', hm, i + 1, _, (I11.unpinned (pins := [])).weak (by rw [← hw8, wipe_length]) (fun j v e => ?_),
        T.keep _ _ _ st7 fun b hb o e => (kept b hb o e).1, fun b hb => ?_, w'⟩
      · rw [← hw8] at e
        exact (wipe_some e).1
      · obtain ⟨o, e, _⟩ := T.obj _ _ st7 b hb
        exact (kept b hb o e).2
  exact codeAny_compStart_list loop (T.self X.A 0 _ _ _ st4 loop)
end
end KX

namespace KX
open PySem PySem.Spec PyProof.Rows L2 L2H
/-! the law's own call, its def promised under CG -/
theorem none_or_at {H : Hp} {a : Addr} (hA : ∀ b, H b ≠ none → b = a) (b : Addr) : H b = none ∨ b = a := by
  cases q : H b with
  | none => exact Or.inl rfl
  | some u => exact Or.inr (hA b (by rw [q]; exact fun z => nomatch z))
theorem lawG_core {P : Program} {w : World} {K : PySem.W.Frag} {mg mb : Str → Option Value} {CX : CXT} {k : Nat} {fa a : Addr}
    {fd : FuncData} {x : Str} {sp : Sp} {s₁ : Shared} {vs : List Value} {H : Hp}
    (KI : K.In s₁.heap) (hns : s₁.heap.Ns mainGlobals mg) (hb : s₁.heap.Ns builtinsNs mb)
    (hbb : ∀ x : Str, x ≠ "__name__" → mb x = bootBuiltins x) (hlim : s₁.heap.NoLimit) (hg : s₁.gens = #[])
    (ha : s₁.heap.get? a = some { cls := .type "list", data := .seq vs.toArray }) (hr : Room k callerA)
    (F : ∀ base : Heap, K.In base → base.Ns mainGlobals mg → FnR P w K mg base CX (CG k) fa fd [x] sp)
    (hbind : ∀ (s : Shared) (u : Value), BindsTo s fd ⟨[u], []⟩ [(x, u)])
    (hCX : ∀ H e s', CX [] H s₁ (fun _ _ _ => False) e s' → False)
    (hO : Only H) (hS : sp [.ref a] H (fun v _ => v = .bl true) fun _ _ _ => False) (hok : HOk P w H s₁.heap)
    (hA : ∀ b, H b ≠ none → b = a) (hK : H a ≠ none → K.lookup a = none) :
    codeAny (model P w) callerA (.call (.ref fa) ⟨[.ref a], []⟩)
      (fun r s' => r = .ok (.ret (.bool true)) ∧ OldK s₁.heap s'.heap ∧ s'.os = s₁.os ∧ AllBare s'.gens) s₁ := by
  have dictFree : ∀ {b : Addr} {o : Obj} {es : Array DictEntry} {ep : Nat}, s₁.heap.get? b = some o → o.data = .dict es ep → H b = none :=
    fun {b o es ep} e d => (none_or_at hA b).resolve_right fun z => by
      subst z
      rw [ha] at e
      cases e
      have d' : Data.seq vs.toArray _ = Data.dict es ep := d
      cases d'
  have ns' : ∀ {b : Addr} {m : Str → Option Value}, s₁.heap.Ns b m → (hidT s₁.heap H).Ns b m := fun {b m} n => by
    obtain ⟨o, es, ep, e, d, r⟩ := n
    exact ⟨o, es, ep, hidT_get e (dictFree e d), d, r⟩
  have KB : K.In (hidT s₁.heap H) := fun b o e => by
    cases q : H b with
    | none => exact hidT_get (KI b o e) q
    | some u =>
      have eb : b = a := hA b (by rw [q]; exact fun z => nomatch z)
      subst eb
      rw [hK (by rw [q]; exact fun z => nomatch z)] at e
      cases e
  have MB : Mod K mg (hidT s₁.heap H) := by
    obtain ⟨mc, h1, h2⟩ := hlim
    exact ⟨KB, ns' hns, ⟨mb, ns' hb, hbb⟩, ⟨mc, ns' h1, h2⟩⟩
  have e0 : Env0 P w K mg (hidT s₁.heap H) callerA [] s₁ H :=
    ⟨rfl, MB, fun b o e => of_hidT e, Nat.le_of_eq (hidT_size _ _), trivial,
      fun b hb => absurd (show b ∈ ([] : List Addr) from hb) (by simp), hok, .of_eq hg⟩
  refine codeAny_mono ((F _ KB (ns' hns)).does callerA [] s₁ H ⟨[.ref a], []⟩ [.ref a] [.ref a] _ _ ⟨hr, rfl⟩ e0
    (hbind s₁ (.ref a)) (.cons rfl .nil) hS) fun r s' h => ?_
  match r, h with
  | .error e, h => exact (hCX H e s' h).elim
  | .ok (.ret u), h =>
    obtain ⟨v, H', os, bare, un, hok', r', q⟩ := h
    have q' : v = .bl true := q
    subst q'
    obtain rfl : u = Value.bool true := r'
    refine ⟨rfl, OldK.of_keep fun b o e => ?_, os, bare⟩
    cases q : H b with
    | none => exact un.keep b o e q (by intro z; exact absurd (show b ∈ ([] : List Addr) from z) (by simp)) (by simp)
    | some u =>
      rcases hO b with z | ⟨ob, xs, z⟩
      · rw [q] at z
        cases z
      · have e1 := (hok b _ z).1
        have e2 := (hok' b _ (un.frzs b ob _ z)).1
        rw [e] at e1
        cases e1
        exact e2
theorem law_callG {P : Program} {w : World} {K : PySem.W.Frag} {mg mb : Str → Option Value} {CX : CXT} {k : Nat} {fa a : Addr}
    {fd : FuncData} {x : Str} {sp : Sp} {s₁ : Shared} {vs : List Value} {ns : List Int}
    (KI : K.In s₁.heap) (hns : s₁.heap.Ns mainGlobals mg) (hb : s₁.heap.Ns builtinsNs mb)
    (hbb : ∀ x : Str, x ≠ "__name__" → mb x = bootBuiltins x) (hlim : s₁.heap.NoLimit) (hg : s₁.gens = #[])
    (ha : s₁.heap.get? a = some { cls := .type "list", data := .seq vs.toArray }) (hi : IntsAre vs ns)
    (hl : ns.length ≤ sizeLine) (hr : Room k callerA)
    (F : ∀ base : Heap, K.In base → base.Ns mainGlobals mg → FnR P w K mg base CX (CG k) fa fd [x] sp)
    (hbind : ∀ (s : Shared) (u : Value), BindsTo s fd ⟨[u], []⟩ [(x, u)])
    (hsp : ∀ H : Hp, Only H → SqL K H a (ns.map V.int) → sp [.ref a] H (fun v _ => v = .bl true) fun _ _ _ => False)
    (hCX : ∀ H e s', CX [] H s₁ (fun _ _ _ => False) e s' → False) :
    codeAny (model P w) callerA (.call (.ref fa) ⟨[.ref a], []⟩)
      (fun r s' => r = .ok (.ret (.bool true)) ∧ OldK s₁.heap s'.heap ∧ s'.os = s₁.os ∧ AllBare s'.gens) s₁ := by
  have rv := vals_ints hi
  cases hk : K.lookup a with
  | some o =>
    have e := KI a o hk
    rw [ha] at e
    cases e
    have O : Only fun _ => none := fun _ => Or.inl rfl
    have S : SqL K (fun _ => none) a (ns.map V.int) :=
      Or.inr ⟨_, vs.toArray, _, hk, rfl, rfl, rfl, by rw [List.size_toArray, hi.length]; exact hl, by simpa using rv⟩
    exact lawG_core KI hns hb hbb hlim hg ha hr F hbind hCX O (hsp _ O S) (fun b u z => nomatch z) (fun b z => absurd rfl z)
      fun z => absurd rfl z
  | none =>
    let H : Hp := fun b => if b = a then
      some (.frz { cls := .type "list", data := .seq vs.toArray } (.lst (ns.map V.int))) else none
    have at_ : H a = some (.frz { cls := .type "list", data := .seq vs.toArray } (.lst (ns.map V.int))) := if_pos rfl
    have off : ∀ {b}, b ≠ a → H b = none := fun h => if_neg h
    have O : Only H := fun b => by
      by_cases h : b = a
      · subst h
        exact Or.inr ⟨_, _, at_⟩
      · exact Or.inl (off h)
    have S : SqL K H a (ns.map V.int) := Or.inl (Or.inr ⟨_, at_⟩)
    refine lawG_core (H := H) KI hns hb hbb hlim hg ha hr F hbind hCX O (hsp _ O S) (fun b u z => ?_)
      (fun b z => Classical.byContradiction fun h => z (off h)) fun _ => hk
    by_cases h : b = a
    · subst h
      rw [at_] at z
      cases z
      exact ⟨ha, by rw [List.length_map]; exact hl, vs, _, rv, ha⟩
    · rw [off h] at z
      cases z
/-- what k_head leaves, by the law's promise under CG -/
theorem walk_ofG {l : PySem.W.OpenLaw} {n k : Nat} {q : Program} {loose : List Str} {XP : (Str → Option Value) → Heap → Prop}
    {YP : World → Heap → Prop} {d : DefRec} {K : Params → PySem.W.Frag} {CX : CXT} {sp : PySem.W.Frag → Sp} {x : Str}
    (hn : l.most = some n) (hn2 : n ≤ sizeLine) (hdf : d.params.defaults = []) (hr : Room k callerA)
    (hY : ∀ (w : World) (h : Heap), YP w h → (K w.params).In h)
    (F : ∀ (w : World) (mg : Str → Option Value) (fa : Addr) (h : Heap), (K w.params).In h → h.Ns mainGlobals mg →
      mg d.name = some (.ref fa) → ∃ fd : FuncData, (∀ (s : Shared) (u : Value), BindsTo s fd ⟨[u], []⟩ [(x, u)]) ∧
        ∀ base : Heap, (K w.params).In base → base.Ns mainGlobals mg →
          FnR l.prog w (K w.params) mg base CX (CG k) fa fd [x] (sp (K w.params)))
    (hsp : ∀ (K : PySem.W.Frag) (H : Hp) (a : Addr) (ns : List Int), ns.length ≤ n → Only H → SqL K H a (ns.map V.int) →
      sp K [.ref a] H (fun v _ => v = .bl true) fun _ _ _ => False)
    (hCX : ∀ (H : Hp) (s : Shared) (e : Value) (s' : Shared), CX [] H s (fun _ _ _ => False) e s' → False) :
    PySem.W.WalkO q loose XP YP l.row.toRowW d [] (fun f vs => PySem.call f vs) := by
  refine Att.attach_call hn hdf fun w s₀ s₁ mg mb fa o pm cd doc a vs ns G Y ho hd hcd hmg hobj hints hlen hg => ?_
  have KI := hY w _ Y
  obtain ⟨fd, hb, hF⟩ := F w mg fa _ KI G.T.g hmg
  exact law_callG KI G.T.g G.T.b G.T.builtins G.T.nolimit hg hobj hints (Nat.le_trans hlen hn2) hr hF hb
    (fun H hO hS => hsp (K w.params) H a ns hlen hO hS) fun H e s' => hCX H s₁ e s'
end KX

namespace KX
open PySem PySem.Spec PyProof.Rows L2
/-! calls by keywords alone -/
section
variable {X : Cx} {CX : CXT} {k : Nat} {f : Addr} {fd : FuncData} {ps ks : List Str} {sp : Sp} {E : XK} {x : Str} {p pos : Pos}
  {kws : List Keyword} {t tk : TA} {g : List Value → List Value → List Value} {gV : List V → List V → List V}
def tCallK (m : Nat) (sp : Sp) (gV : List V → List V → List V) (E : XK) (tk : TA) : TE := fun σ H Q =>
  tk σ H fun zs H2 => zs.length = m ∧ sp (gV [] zs) H2 Q E
theorem pe_callK (F : FnOk X.prog X.w X.K X.mg X.base CX k f fd ps sp) (hr : Room k X.A) (hg : Gl X x) (hm : X.mg x = some (.ref f))
    (hk : PySem.W.keepIn X.K (.ref f) = true) (hb : KBn X.K fd ps 0 ks g gV) (hx : Passes CX X E) (hkw : PK X kws tk)
    (hall : (backToKw pos (keywordEach kws X.env)).all (·.1.isSome) = true := by rfl)
    (hks : (backToKw pos (keywordEach kws X.env)).filterMap (·.1) = ks := by rfl)
    (hdb : (x == ("__debug__" : Str)) = false := by decide)
    (hpl : ((backTo pos (starEach [] X.env)).any (·.1) || (backToKw pos (keywordEach kws X.env)).any (·.1.isNone)) = false := by rfl) :
    PE X (.Call (.Name x p) [] kws pos) (tCallK ks.length sp gV E tk) := by
  refine ⟨fun pins s σ H Q I h => wpAny_Call_Name_kw (ld_glob I hg hm ?_ hdb)⟩
  refine PySem.W.callWith_KW0 (h₀ := X.base) I.ok.mod.kin hk hall (thn (hkw.run pos pins s σ H _ I h) fun ws s2 hh => ?_) hpl
  obtain ⟨zs, H2, I2, rz, l2, q2⟩ := hh
  refine ⟨I2.kIn, ?_⟩
  rw [hks]
  exact run_fnN (us := []) (vs := []) F hr hb hx I2 .nil rz rfl l2 q2
/-- two parameters by keywords, in the other order -/
theorem kb_swap {K : PySem.W.Frag} {fd : FuncData} {a b : Str}
    (h : ∀ u v : Value, bindArgs fd ⟨[], [(b, v), (a, u)]⟩ = pure [(a, u), (b, v)]) :
    KBn K fd [a, b] 0 [b, a] (fun _ ws => ws.reverse) (fun _ zs => zs.reverse) where
  to := fun s us ws _ h0 h2 => by
    match us, ws, h0, h2 with
    | [], [v, u], _, _ => exact .of_eq (h u v)
  rel := fun {vs us zs ws} _ r => by
    induction r with
    | nil => exact .nil
    | cons q _ ih =>
      rw [List.reverse_cons, List.reverse_cons]
      exact ih.append (.cons q .nil)
/-- two parameters by keywords, in their order -/
theorem kb_both {K : PySem.W.Frag} {fd : FuncData} {a b : Str}
    (h : ∀ u v : Value, bindArgs fd ⟨[], [(a, u), (b, v)]⟩ = pure [(a, u), (b, v)]) :
    KBn K fd [a, b] 0 [a, b] (fun _ ws => ws) (fun _ zs => zs) where
  to := fun s us ws _ h0 h2 => by
    match us, ws, h0, h2 with
    | [], [u, v], _, _ => exact .of_eq (h u v)
  rel := fun _ r => r
/-- the second one of two by keyword -/
theorem kb_second {K : PySem.W.Frag} {fd : FuncData} {a b : Str}
    (h : ∀ u v : Value, bindArgs fd ⟨[u], [(b, v)]⟩ = pure [(a, u), (b, v)]) :
    KBn K fd [a, b] 1 [b] (fun us ws => us ++ ws) (fun vs zs => vs ++ zs) where
  to := fun s us ws _ h0 h2 => by
    match us, ws, h0, h2 with
    | [u], [v], _, _ => exact .of_eq (h u v)
  rel := fun r1 r2 => r1.append r2
end
/-! // by any number that is not 0 -/
def CDivA (_ j : Int) : Prop := j ≠ 0 ∧ j.natAbs.log2 < 9000
theorem op_fdivA {X : Cx} : OpR X (binaryOp .FloorDiv) (rI CDivA fun i j => .int (i.fdiv j)) := opI fun i j _ _ _ _ _ hc q =>
  floordiv_int hc.1 q (.inl (PyProof.noPylong_of_log2 hc.2))
/-! which values are integers -/
inductive Kin (K : PySem.W.Frag) (H : Hp) : V → Option Int → Prop
  | int (i : Int) : Kin K H (.int i) (some i)
  | oth {x : V} {n : String} {b1 b2 : Bool} (t : TyX K H x (.type n)) (h1 : kitB n "int" = some b1) (h2 : kitB n "bool" = some b2)
      (h : (b1 && !b2) = false) : Kin K H x none
theorem Kin.ty {K : PySem.W.Frag} {H : Hp} {x : V} {o : Option Int} (k : Kin K H x o) :
    ∃ n b1 b2, TyX K H x (.type n) ∧ kitB n "int" = some b1 ∧ kitB n "bool" = some b2 ∧ (b1 && !b2) = o.isSome := by
  cases k with
  | int i => exact ⟨"int", true, false, .base (.int i), by decide +kernel, by decide +kernel, rfl⟩
  | oth t h1 h2 h => exact ⟨_, _, _, t, h1, h2, h⟩
end KX

namespace KX
open PySem PySem.Spec PyProof.Rows L2
section
variable {X : Cx} {C fI : Addr} {en qn : Str}
theorem pmk_errZ {a : Expr} {ta : TA} {p pos : Pos} {k : Nat} (T : PySem.ErrX.ErrTxt X.K X.mg en qn C fI) (hr : Room k X.A) (ha : PA X [a] ta) (hg : Gl X en := by rfl) (hdb : (en == ("__debug__" : Str)) = false := by decide)
    (he : starEach (a :: []) X.env = (false, eval a X.env) :: starEach [] X.env := by rfl) (hpl : (backTo pos (starEach [] X.env)).any (·.1) = false := by rfl) :
    L2.PMk X (.Call (.Name en p) [a] [] pos) (tMkErr C ta) := fun pins s σ H Q I h => by
  refine wpAny_mono (pmk_err T hr ha hg hdb he hpl pins s σ H Q I h) (fun u s' hu => ?_) fun _ _ x => x
  obtain ⟨a, oe, vs, sI, H', cls, d, h1, h2, h3, h4, h5, hz, h6⟩ := hu
  exact ⟨a, oe, vs, sI, H', cls, d, h1, h2, h3, h4, h5, hz.zc, h6⟩
theorem ps_raiseErrZ {a : Expr} {ta : TA} {W : WX} {p pos pos2 : Pos} {k : Nat} (hc : X.calm = true) (T : PySem.ErrX.ErrTxt X.K X.mg en qn C fI) (hr : Room k X.A) (tk : L2.Takes X W) (ha : PA X [a] ta) (hg : Gl X en := by rfl) (hdb : (en == ("__debug__" : Str)) = false := by decide)
    (he : starEach (a :: []) X.env = (false, eval a X.env) :: starEach [] X.env := by rfl) (hpl : (backTo pos (starEach [] X.env)).any (·.1) = false := by rfl) :
    PS X (.Raise (some (.Call (.Name en p) [a] [] pos)) none pos2) (tRaiseErr C W ta) := L2.ps_raise hc tk (pmk_errZ T hr ha hg hdb he hpl)
end
end KX

namespace KX
open PySem PySem.Spec PyProof.Rows L2 L2H LamX
/-! the law's own call under CG, with one table of code objects -/
section
variable {P : Program} {w : World} {K : PySem.W.Frag} {mg mb : Str → Option Value} {CX : CXT} {k : Nat} {fa a c t : Addr}
  {fd : FuncData} {x : Str} {sp : Sp} {s₁ : Shared} {vs : List Value}
/-- only the script and the table are tracked -/
structure OnlyT (H : Hp) (a t : Addr) : Prop where
  tab : H t = some (.tbl #[])
  who : ∀ b, H b ≠ none → b = a ∨ b = t
  frz : ∀ u, H a = some u → ∃ o xs, u = .frz o (.lst xs)
theorem OnlyT.off {H : Hp} {b : Addr} (O : OnlyT H a t) (h1 : b ≠ a) (h2 : b ≠ t) : H b = none :=
  Classical.byContradiction fun z => (O.who b z).elim h1 h2
theorem lawT_core {H : Hp}
    (KI : K.In s₁.heap) (hns : s₁.heap.Ns mainGlobals mg) (hb : s₁.heap.Ns builtinsNs mb)
    (hbb : ∀ x : Str, x ≠ "__name__" → mb x = bootBuiltins x) (hlim : s₁.heap.NoLimit) (hg : s₁.gens = #[])
    (ht : s₁.heap.get? t = some { cls := .none, data := .fields #[] }) (nt : K.lookup t = none) (C : PySem.W.CodeHd s₁.heap c t)
    (hbm : ∃ (bm : Addr) (ob : Obj), mg "__builtins__" = some (.ref bm) ∧ bm ≠ builtinsNs ∧ s₁.heap.get? bm = some ob ∧ ob.cls = .type "module" ∧ ob.dict = some builtinsNs ∧ ob.data = .plain)
    (ha : s₁.heap.get? a = some { cls := .type "list", data := .seq vs.toArray }) (hr : Room k callerA)
    (F : ∀ base : Heap, K.In base → base.Ns mainGlobals mg → TabB base mg c t → FnR P w K mg base CX (CG k) fa fd [x] sp)
    (hbind : ∀ (s : Shared) (u : Value), BindsTo s fd ⟨[u], []⟩ [(x, u)])
    (hCX : ∀ H e s', CX [] H s₁ (fun _ _ _ => False) e s' → False)
    (O : OnlyT H a t) (hS : sp [.ref a] H (fun v _ => v = .bl true) fun _ _ _ => False) (hok : HOk P w H s₁.heap)
    (hK : H a ≠ none → K.lookup a = none) :
    codeAny (model P w) callerA (.call (.ref fa) ⟨[.ref a], []⟩)
      (fun r s' => r = .ok (.ret (.bool true)) ∧ OldK s₁.heap s'.heap ∧ s'.os = s₁.os ∧ AllBare s'.gens) s₁ := by
  have sees : ∀ {b : Addr} {o : Obj}, s₁.heap.get? b = some o → (∀ vs n, o.data ≠ .seq vs n) → o.data ≠ .fields #[] →
      (hidT s₁.heap H).get? b = some o := fun {b o} e h1 h2 => hidT_get e (O.off (fun z => by
        subst z
        rw [ha] at e
        cases e
        exact h1 _ _ rfl) fun z => by
        subst z
        rw [ht] at e
        cases e
        exact h2 rfl)
  have nsH : ∀ {b : Addr} {m : Str → Option Value}, s₁.heap.Ns b m → (hidT s₁.heap H).Ns b m := fun {b m} n => by
    obtain ⟨o, es, ep, e, d, r⟩ := n
    exact ⟨o, es, ep, sees e (fun vs n z => by rw [d] at z; cases z) (fun z => by rw [d] at z; cases z), d, r⟩
  have KB : K.In (hidT s₁.heap H) := fun b o e => hidT_get (KI b o e) (Classical.byContradiction fun z => by
    rcases O.who b z with h | h
    · subst h
      rw [hK z] at e
      cases e
    · subst h
      rw [nt] at e
      cases e)
  have MB : Mod K mg (hidT s₁.heap H) := by
    obtain ⟨mc, h1, h2⟩ := hlim
    exact ⟨KB, nsH hns, ⟨mb, nsH hb, hbb⟩, ⟨mc, nsH h1, h2⟩⟩
  have TB : TabB (hidT s₁.heap H) mg c t := by
    refine ⟨?_, ?_, fun z => ?_⟩
    · obtain ⟨o, us, file, tf, flags, tg, inF, text, tt, e1, r1, r2, r3, rest⟩ := C
      refine ⟨o, us, file, tf, flags, tg, inF, text, tt, sees e1 (fun vs n z => ?_) (fun z => ?_), r1, r2, r3, rest⟩
      · rw [r2] at z
        cases z
      · rw [r2] at z
        cases z
        simp at r3
    · obtain ⟨bm, ob, b1, b2, b3, b4, b5, b6⟩ := hbm
      refine ⟨bm, ob, b1, b2, fun q => ?_, fun q => ?_, sees b3 (fun vs n z => by rw [b6] at z; cases z) (fun z => by rw [b6] at z; cases z), b4, b5, b6⟩
      · obtain ⟨o, es, ep, e, hd, _⟩ := hns
        rw [q, e] at b3
        cases b3
        rw [hd] at b6
        cases b6
      · rw [q, ht] at b3
        cases b3
        cases b6
    · obtain ⟨o, es, ep, e, hd, _⟩ := hns
      rw [z, ht] at e
      cases e
      cases hd
  have e0 : Env0 P w K mg (hidT s₁.heap H) callerA [] s₁ H :=
    ⟨rfl, MB, fun b o e => of_hidT e, Nat.le_of_eq (hidT_size _ _), trivial,
      fun b hb => absurd (show b ∈ ([] : List Addr) from hb) (by simp), hok, .of_eq hg⟩
  refine codeAny_mono ((F _ KB (nsH hns) TB).does callerA [] s₁ H ⟨[.ref a], []⟩ [.ref a] [.ref a] _ _ ⟨hr, rfl⟩ e0
    (hbind s₁ (.ref a)) (.cons rfl .nil) hS) fun r s' h => ?_
  match r, h with
  | .error e, h => exact (hCX H e s' h).elim
  | .ok (.ret u), h =>
    obtain ⟨v, H', os, bare, un, hok', r', q⟩ := h
    have q' : v = .bl true := q
    subst q'
    obtain rfl : u = Value.bool true := r'
    obtain ⟨more, hm⟩ : ∃ more : Array Value, s'.heap.get? t = some { cls := .none, data := .fields more } := by
      obtain ⟨more, z⟩ := un.tbls t #[] O.tab
      exact ⟨_, hok' t _ z⟩
    have other : ∀ b o, b ≠ t → s₁.heap.get? b = some o → s'.heap.get? b = some o := fun b o nb e => by
      cases q : H b with
      | none => exact un.keep b o e q (by intro z; exact absurd (show b ∈ ([] : List Addr) from z) (by simp)) (by simp)
      | some u =>
        have eb : b = a := (O.who b (by rw [q]; exact fun z => nomatch z)).resolve_right nb
        subst eb
        obtain ⟨ob, xs, rfl⟩ := O.frz _ q
        have e1 := (hok b _ q).1
        have e2 := (hok' b _ (un.frzs b ob _ q)).1
        rw [e] at e1
        cases e1
        exact e2
    refine ⟨rfl, ⟨fun b o e => ?_, fun b o e => ?_⟩, os, bare⟩
    · by_cases h : b = t
      · subst h
        rw [ht] at e
        cases e
        exact .inr (.inl ⟨(C.tab ht).isCodeTable, rfl, #[], more, rfl, by rw [Array.empty_append]; exact hm⟩)
      · exact .inl (other b o h e)
    · by_cases h : b = t
      · subst h
        exact ⟨_, hm⟩
      · exact ⟨o, other b o h e⟩
theorem law_callT {ns : List Int}
    (KI : K.In s₁.heap) (hns : s₁.heap.Ns mainGlobals mg) (hb : s₁.heap.Ns builtinsNs mb)
    (hbb : ∀ x : Str, x ≠ "__name__" → mb x = bootBuiltins x) (hlim : s₁.heap.NoLimit) (hg : s₁.gens = #[])
    (ht : s₁.heap.get? t = some { cls := .none, data := .fields #[] }) (nt : K.lookup t = none) (C : PySem.W.CodeHd s₁.heap c t)
    (hbm : ∃ (bm : Addr) (ob : Obj), mg "__builtins__" = some (.ref bm) ∧ bm ≠ builtinsNs ∧ s₁.heap.get? bm = some ob ∧ ob.cls = .type "module" ∧ ob.dict = some builtinsNs ∧ ob.data = .plain)
    (ha : s₁.heap.get? a = some { cls := .type "list", data := .seq vs.toArray }) (hi : IntsAre vs ns) (hl : ns.length ≤ sizeLine) (hr : Room k callerA)
    (F : ∀ base : Heap, K.In base → base.Ns mainGlobals mg → TabB base mg c t → FnR P w K mg base CX (CG k) fa fd [x] sp)
    (hbind : ∀ (s : Shared) (u : Value), BindsTo s fd ⟨[u], []⟩ [(x, u)])
    (hsp : ∀ H : Hp, H t = some (.tbl #[]) → SqL K H a (ns.map V.int) → sp [.ref a] H (fun v _ => v = .bl true) fun _ _ _ => False)
    (hCX : ∀ H e s', CX [] H s₁ (fun _ _ _ => False) e s' → False) :
    codeAny (model P w) callerA (.call (.ref fa) ⟨[.ref a], []⟩)
      (fun r s' => r = .ok (.ret (.bool true)) ∧ OldK s₁.heap s'.heap ∧ s'.os = s₁.os ∧ AllBare s'.gens) s₁ := by
  have rv := vals_ints hi
  have nat : a ≠ t := fun z => by
    rw [z, ht] at ha
    cases ha
  cases hk : K.lookup a with
  | some o =>
    have e := KI a o hk
    rw [ha] at e
    cases e
    let H : Hp := fun b => if b = t then some (.tbl #[]) else none
    have atT : H t = some (.tbl #[]) := if_pos rfl
    have off : ∀ {b}, b ≠ t → H b = none := fun h => if_neg h
    have S : SqL K H a (ns.map V.int) :=
      Or.inr ⟨_, vs.toArray, _, hk, rfl, rfl, rfl, by rw [List.size_toArray, hi.length]; exact hl, by simpa using rv⟩
    have O : OnlyT H a t := ⟨atT, fun b z => Or.inr (Classical.byContradiction fun h => z (off h)), fun u z => by rw [off nat] at z; cases z⟩
    refine lawT_core KI hns hb hbb hlim hg ht nt C hbm ha hr F hbind hCX O (hsp _ atT S) (fun b u z => ?_) fun z => absurd (off nat) z
    by_cases h : b = t
    · subst h
      rw [atT] at z
      cases z
      exact ht
    · rw [off h] at z
      cases z
  | none =>
    let H : Hp := fun b => if b = a then some (.frz { cls := .type "list", data := .seq vs.toArray } (.lst (ns.map V.int))) else if b = t then some (.tbl #[]) else none
    have atA : H a = some (.frz { cls := .type "list", data := .seq vs.toArray } (.lst (ns.map V.int))) := if_pos rfl
    have atT : H t = some (.tbl #[]) := (if_neg (Ne.symm nat)).trans (if_pos rfl)
    have off : ∀ {b}, b ≠ a → b ≠ t → H b = none := fun h h' => (if_neg h).trans (if_neg h')
    have S : SqL K H a (ns.map V.int) := Or.inl (Or.inr ⟨_, atA⟩)
    have O : OnlyT H a t := ⟨atT, fun b z => by
      by_cases h : b = a
      · exact Or.inl h
      · exact Or.inr (Classical.byContradiction fun h' => z (off h h')), fun u z => by rw [atA] at z; cases z; exact ⟨_, _, rfl⟩⟩
    refine lawT_core KI hns hb hbb hlim hg ht nt C hbm ha hr F hbind hCX O (hsp _ atT S) (fun b u z => ?_) fun _ => hk
    by_cases h : b = a
    · subst h
      rw [atA] at z
      cases z
      exact ⟨ha, by rw [List.length_map]; exact hl, vs, _, rv, ha⟩
    · by_cases h' : b = t
      · subst h'
        rw [atT] at z
        cases z
        exact ht
      · rw [off h h'] at z
        cases z
end
/-- what k_head leaves, by the law's promise under CG; t: the table of the law's code object -/
theorem walk_ofT {l : PySem.W.OpenLaw} {n k : Nat} {q : Program} {loose : List Str} {XP : (Str → Option Value) → Heap → Prop}
    {YP : World → Heap → Prop} {d : DefRec} {K : Params → PySem.W.Frag} {CX : CXT} {x : Str} {c t : Addr} {sp : PySem.W.Frag → Sp}
    (hn : l.most = some n) (hn2 : n ≤ sizeLine) (hdf : d.params.defaults = []) (hr : Room k callerA)
    (hY : ∀ (w : World) (h : Heap), YP w h → (K w.params).In h)
    (hT : ∀ (w : World) (h : Heap), YP w h → h.get? t = some { cls := .none, data := .fields #[] })
    (hcd : ∀ w : World, PySem.W.codeHdIn (K w.params) c t = true) (nt : ∀ w : World, (K w.params).lookup t = none)
    (F : ∀ (w : World) (mg : Str → Option Value) (fa : Addr) (h : Heap), (K w.params).In h → h.Ns mainGlobals mg →
      mg d.name = some (.ref fa) → ∃ fd : FuncData, (∀ (s : Shared) (u : Value), BindsTo s fd ⟨[u], []⟩ [(x, u)]) ∧
        ∀ base : Heap, (K w.params).In base → base.Ns mainGlobals mg → TabB base mg c t →
          FnR l.prog w (K w.params) mg base CX (CG k) fa fd [x] (sp (K w.params)))
    (hsp : ∀ (K : PySem.W.Frag) (H : Hp) (a : Addr) (ns : List Int), ns.length ≤ n → H t = some (.tbl #[]) → SqL K H a (ns.map V.int) →
      sp K [.ref a] H (fun v _ => v = .bl true) fun _ _ _ => False)
    (hCX : ∀ (H : Hp) (s : Shared) (e : Value) (s' : Shared), CX [] H s (fun _ _ _ => False) e s' → False) :
    PySem.W.WalkO q loose XP YP l.row.toRowW d [] (fun f vs => PySem.call f vs) := by
  refine Att.attach_call hn hdf fun w s₀ s₁ mg mb fa o pm cd doc a vs ns G Y ho hd hcd' hmg hobj hints hlen hg => ?_
  have KI := hY w _ Y
  obtain ⟨fd, hb, hF⟩ := F w mg fa _ KI G.T.g hmg
  exact law_callT KI G.T.g G.T.b G.T.builtins G.T.nolimit hg (hT w _ Y) (nt w) (PySem.W.codeHd_of_K KI (hcd w)) G.T.bmain hobj hints (Nat.le_trans hlen hn2) hr hF hb
    (fun H hH hS => hsp (K w.params) H a ns hlen hH hS) fun H e s' => hCX H s₁ e s'
end KX

namespace KX
open PySem PySem.Spec PyProof.Rows L2
/-! lists or tuples walked -/
theorem PI.or {X : Cx} {tg l : Expr} {w1 w2 : TI} (h1 : PI X tg l w1) (h2 : PI X tg l w2) :
    PI X tg l (fun σ H R => w1 σ H R ∨ w2 σ H R) :=
  ⟨fun pins s σ H R I h => h.elim (h1.run pins s σ H R I) (h2.run pins s σ H R I)⟩
theorem CallR.or {X : Cx} {f : Value} {r1 r2 : List V → Hp → VK → Prop} (h1 : CallR X f r1) (h2 : CallR X f r2) :
    CallR X f (fun xs H Q => r1 xs H Q ∨ r2 xs H Q) :=
  fun pins s σ H xs us Q I r h => h.elim (h1 pins s σ H xs us Q I r) (h2 pins s σ H xs us Q I r)
/-! sorted of a tuple of ints -/
section
variable {prog : Program} {w : World} {A : Around} {s : Shared} {E : Value → Shared → Prop}
theorem collect_tup {l : Addr} {vs : List Value} {n : Nat} {dd : Option Addr} {sl : Array (Option Value)}
    {Q : List Value → Shared → Prop}
    (hl : s.heap.get? l = some ⟨.type "tuple", dd, .seq vs.toArray n, sl⟩) (hz : vs.length ≤ sizeLine)
    (h : Q vs { s with heap := ((s.heap.push (seqObj "list" #[] 0)).update
      s.heap.objs.size (Obj.mapSeq (· ++ vs.toArray))) }) :
    wpAny (model prog w) A (collect (.ref l)) Q E s := by
  unfold collect
  apply wpAny_bind
  apply wpAny_runValue
  refine codeAny_builtin
    entry_proto_collect' ?_
  show wpAny _ _ (do
    again (.builtin "list.__iadd__" ⟨[← newList [], .ref l], []⟩)) _ _ s
  apply wpAny_bind
  refine wpAny_newList
    (wpAny_pure ⟨Code.quiet_builtin _ (by decide +kernel), ?_⟩)
  refine codeAny_builtin
    entry_list_iadd' ?_
  show wpAny _ _
    (Builtin.List.listExtendWith (.ref s.heap.objs.size) (.ref l) (.ref s.heap.objs.size)) _ _
    { s with heap := s.heap.push (seqObj "list" #[] 0) }
  unfold Builtin.List.listExtendWith
  have hl' : (s.heap.push (seqObj "list" #[] 0)).get? l = some ⟨.type "tuple", dd, .seq vs.toArray n, sl⟩ :=
    Heap.get?_push_of_some _ hl
  apply wpAny_bind
  refine wpAny_typeOf (T := "tuple")
    ⟨_, hl', rfl⟩ ?_
  have ht : (Value.type "tuple" == Value.type "tuple") = true := by rfl
  rw [if_pos (by rw [ht]; simp)]
  apply wpAny_bind
  refine listItems_at hl' rfl ?_
  apply wpAny_bind
  have hn : (s.heap.push (seqObj "list" #[] 0)).get? s.heap.objs.size = some (seqObj "list" #[] 0) :=
    Heap.get?_push_size _ rfl
  refine listItems_at (xs := #[]) (n := 0) hn rfl ?_
  rw [if_neg (by simp)]
  apply wpAny_bind
  refine listUpdate_at (xs := #[]) (n := 0) hn rfl ?_ (Nat.zero_le _)
    (by
      show (#[] ++ vs.toArray).size ≤ sizeLine + 1
      simp only [Array.size_append, List.size_toArray, List.length_nil]
      omega)
  apply wpAny_pure
  show wpAny (model prog w) A (do
      match (← load s.heap.objs.size).data with
      | .seq xs _ => pure xs.toList
      | _ => unsupported "internal:collect") Q E
    { s with heap := ((s.heap.push (seqObj "list" #[] 0)).update
      s.heap.objs.size (Obj.mapSeq (· ++ vs.toArray))) }
  apply wpAny_bind
  refine wpAny_load (get?_update_seq hn _) ?_
  show wpAny _ _ (pure ((#[] : Array Value) ++ vs.toArray).toList) Q E _
  have e : ((#[] : Array Value) ++ vs.toArray).toList = vs := by simp
  rw [e]
  exact wpAny_pure h
theorem sorted_tup {l : Addr} {vs : List Value} {ns : List Int} {n : Nat} {dd : Option Addr} {sl : Array (Option Value)}
    {Q : Value → Shared → Prop}
    (hl : s.heap.get? l = some ⟨.type "tuple", dd, .seq vs.toArray n, sl⟩) (hI : IntsAre vs ns) (h64 : vs.length < 64)
    (h : ∀ (out : Array Value) (ns' : List Int), IntsAre out.toList ns' → ns'.Perm ns → ns'.Pairwise (· ≤ ·) →
      Q (.ref (s.heap.objs.size + 1)) { s with heap := sortedAll s.heap vs out }) :
    wpAny (model prog w) A (call (.builtin "sorted") [.ref l]) Q E s := by
  refine Calls.call_function_entry
    kind_sorted plain_sorted entry_sorted (args_sorted1 _) ?_
  unfold Builtin.«sorted»
  refine wpAny_bind (m := checkCount "sorted" 1 1 _)
    (wpAny_pure ?_)
  apply wpAny_bind
  refine collect_tup hl (Nat.le_of_lt (Nat.lt_trans h64 (by decide))) ?_
  apply wpAny_bind
  refine wpAny_newList ?_ (hsz := Nat.le_of_lt (Nat.lt_trans h64 (by decide)))
  have hs2 : ((s.heap.push (seqObj "list" #[] 0)).update s.heap.objs.size
      (Obj.mapSeq (· ++ vs.toArray))).objs.size = s.heap.objs.size + 1 := by
    rw [Heap.size_update]
    exact Heap.size_push ..
  have ho : (((s.heap.push (seqObj "list" #[] 0)).update s.heap.objs.size
      (Obj.mapSeq (· ++ vs.toArray))).push (seqObj "list" vs.toArray 0)).get? (s.heap.objs.size + 1) =
      some (seqObj "list" vs.toArray 0) := by
    rw [← hs2]
    exact Heap.get?_push_size _ rfl
  show wpAny _ _ _ _ _
    { s with heap := (((s.heap.push (seqObj "list" #[] 0)).update s.heap.objs.size
      (Obj.mapSeq (· ++ vs.toArray))).push (seqObj "list" vs.toArray 0)) }
  rw [hs2]
  apply wpAny_bind
  apply wpAny_holding
  refine wpAny_call_entry slot_list_sort ⟨_, ho, rfl⟩ entry_list_sort ?_ (args_list_sort _)
  refine list_sort_tree ho hI h64 fun out ns' a1 a2 a3 => ⟨_, rfl, ?_⟩
  exact wpAny_pure ⟨_, rfl, h out ns' a1 a2 a3⟩
end
def rSortT (K : PySem.W.Frag) : List V → Hp → VK → Prop := fun vs H Q =>
  ∃ (a : Addr) (ns : List Int), vs = [V.ref a] ∧ SqT K H a (ns.map V.int) ∧ ns.length < 64 ∧
    ∀ (ns' : List Int) (p : Addr), ns'.Perm ns → ns'.Pairwise (· ≤ ·) → H p = none →
      Q (.ref p) (upd H p (.lst (ns'.map V.int)))
theorem cr_sortT {X : Cx} : CallR X (.builtin "sorted") (rSortT X.K) := by
  intro pins s σ H vs us Q I r h
  obtain ⟨a, ns, rfl, hs, h64, q⟩ := h
  obtain ⟨its, rv, ⟨⟨cls, dd, data, sl⟩, ho, hc, n, hd⟩, _⟩ := I.tuple hs
  simp only at hc hd
  subst hc hd
  rw [Vals.ref1 r]
  have hi := rv.ints
  refine sorted_tup ho hi (by rw [hi.length]; exact h64) fun out ns' h1 h2 h3 => ?_
  obtain ⟨ep, he⟩ := sortedAll_at s.heap its out
  have hlen : (ns'.map V.int).length ≤ sizeLine := by
    rw [List.length_map, h2.length_eq]
    exact Nat.le_of_lt (Nat.lt_trans h64 (by decide))
  refine ⟨.ref _, upd H (s.heap.objs.size + 1) (.lst (ns'.map V.int)), ?_, rfl,
    q ns' _ h2 h3 (I.hok.fresh (Nat.le_succ _))⟩
  exact I.laid (t' := s.toks) (fun _ _ => sortedAll_old) (Nat.le_succ _)
    ⟨hlen, out.toList, ep, vals_of_ints h1, he⟩
/-! t.count(k) of a tuple of ints -/
def rCntT (K : PySem.W.Frag) : V → List V → Hp → VK → Prop := fun x xs H Q =>
  ∃ (p : Addr) (ns : List Int) (k : Int), x = .ref p ∧ xs = [.int k] ∧ SqT K H p (ns.map V.int) ∧
    Q (.int (ns.count k : Nat)) H
theorem mt_tcount {X : Cx} : MtR X "tuple.count" (rCntT X.K) := by
  intro pins s σ H x xs v us Q I rx rxs h
  obtain ⟨p, ns, k, rfl, rfl, hs, q⟩ := h
  cases rx
  obtain ⟨u, rfl, ru⟩ := rxs.one
  obtain ⟨t, rfl⟩ := ru
  obtain ⟨its, rv, ⟨⟨cls, dd, data, sl⟩, ho, hc, n, hd⟩, _⟩ := I.tuple hs
  simp only at hc hd
  subst hc hd
  have hi := ints_of_vals rv
  refine call_meets PySem.F.slot_tuple_count ⟨_, ho, rfl⟩ PySem.F.entry_tuple_count
    (PySem.F.args_tuple_count_2 _ _) (SeqAt.tuple_countAt p its.toArray n dd sl (.int k t) (eqk k)) ⟨ho, ?_, ?_⟩
  · exact fun y hy => (eqk_gives hi y (by simpa using hy)).at _ _
  · have ec : its.toArray.toList.countP (eqk k) = ns.count k := eqk_count hi
    refine ⟨.int (ns.count k : Nat), H, I.tok _, ⟨s.toks, ?_⟩, q⟩
    show Value.int ((its.toArray.toList.countP (eqk k) : Nat) : Int) s.toks = _
    rw [ec]
end KX

namespace KX
open PySem PySem.Spec PyProof.Rows L2
/-! a tuple, frozen or not -/
abbrev Tup (H : Hp) (a : Addr) (xs : List V) : Prop := Rd H a (.tup xs)
theorem Tup.of {H : Hp} {a : Addr} {xs : List V} (h : H a = some (.tup xs)) : Tup H a xs := Or.inl h
theorem Tup.sq {K : PySem.W.Frag} {H : Hp} {a : Addr} {xs : List V} (h : Tup H a xs) : SqT K H a xs := Or.inl h
theorem Tup.ty {K : PySem.W.Frag} {H : Hp} {a : Addr} {xs : List V} (h : Tup H a xs) : TyX K H (.ref a) (.type "tuple") := by
  rcases h with h | ⟨o, h⟩
  · exact .base (.tup h)
  · exact .fTuple h
theorem Tup.same {H H' : Hp} {a : Addr} {xs : List V} (h : Tup H a xs) (s : Same H H') : Tup H' a xs := by
  rcases h with h | ⟨o, h⟩
  · exact Or.inl (s _ _ h)
  · exact Or.inr ⟨o, s _ _ h⟩
/-- a tuple whose object is known: without a dict -/
def TupF (H : Hp) (a : Addr) (xs : List V) : Prop := ∃ o : Obj, H a = some (.frz o (.tup xs)) ∧ o.cls = .type "tuple" ∧ o.dict = none
theorem TupF.tup {H : Hp} {a : Addr} {xs : List V} (h : TupF H a xs) : Tup H a xs := by
  obtain ⟨o, h, _⟩ := h
  exact Or.inr ⟨o, h⟩
theorem TupF.same {H H' : Hp} {a : Addr} {xs : List V} (h : TupF H a xs) (s : Same H H') : TupF H' a xs := by
  obtain ⟨o, h, z⟩ := h
  exact ⟨o, s _ _ h, z⟩
section
variable {X : Cx}
/-- tuple(l), l a list: the new tuple's object is known -/
def kTupF (K : PySem.W.Frag) (x : V) (H : Hp) (Q : VK) : Prop := ∃ p xs, x = .ref p ∧ SqL K H p xs ∧
  ∀ q (o : Obj), H q = none → o.cls = .type "tuple" → o.dict = none → Q (.ref q) (upd H q (.frz o (.tup xs)))
theorem pe_tupleF {a : Expr} {ta : TE} {p pos : Pos} (hg : Gl X "tuple") (hm : X.mg "tuple" = none) (ha : PE X a ta)
    (na : starEach [a] X.env = (false, eval a X.env) :: starEach [] X.env := by rfl) :
    PE X (.Call (.Name "tuple" p) [a] [] pos) (tThen ta (kTupF X.K)) := by
  refine ⟨fun pins s σ H Q I h => Call_ (ld_blt I hg hm boot_tuple (PyProof.Rows.callWith_type1 (one_arg ha I h (fun v s2 x H2 I2 r q => ?_) na) na))⟩
  obtain ⟨l, xs, rfl, hs, hq⟩ := q
  obtain rfl : v = .ref l := r
  obtain ⟨its, rv, pl, hz⟩ := I2.list hs
  have hsz : its.toArray.size ≤ sizeLine := by
    rw [List.size_toArray, ← rv.length]
    exact hz
  refine call_tuple_list pl.isList (fun h' hk => ?_) hsz
  have J : Inv X pins σ H2 { s2 with heap := h' } := I2.kept (t' := s2.toks) hk
  have nq : H2 h'.objs.size = none := J.hok.fresh (Nat.le_refl _)
  refine ⟨.ref h'.objs.size, _, J.laid (t' := s2.toks) (fun b o e => Heap.get?_push_of_some _ e) (Nat.le_refl _) ?_, rfl,
    hq h'.objs.size { cls := .type "tuple", data := .seq its.toArray } nq rfl rfl⟩
  exact ⟨Heap.get?_push_size _ rfl, hz, its, rv, IsTup.new _ _⟩
/-- a method of such a tuple, called -/
def tBMF (r : V → List V → Hp → VK → Prop) (to : TE) (t : TA) : TE := fun σ H Q =>
  to σ H fun x H1 => (∃ a xs, x = .ref a ∧ TupF H1 a xs) ∧ t σ H1 fun ys H2 => r x ys H2 Q
theorem pe_bmF {o e : Expr} {to : TE} {t : TA} {name : Str} {apos cpos : Pos} {id : String} {r : V → List V → Hp → VK → Prop}
    (slot : Slot "tuple" name id) (hty : typeOf (.builtin id) = pure (.type "method_descriptor")) (hm : MtR X id r) (ho : PE X o to) (ha : PA X [e] t)
    (hbase : attributeBase o name X.env (eval o X.env) = eval o X.env := by rfl)
    (hfew : ((backTo cpos (starEach [e] X.env)).all (fun x => !x.1) && (backToKw cpos (keywordEach [] X.env)).all (fun x => x.1.isSome)
      && decide ([e].length + ([] : List Keyword).length + (if ([] : List Keyword).isEmpty then 0 else 1) < 30)) = true := by rfl)
    (hline : (apos.endLine == cpos.line) = true := by rfl)
    (hs : starEach [e] X.env = (false, eval e X.env) :: starEach [] X.env := by rfl) (hplain : (backTo cpos (starEach [] X.env)).any (·.1) = false := by rfl) :
    PE X (.Call (.Attribute o name apos) [e] [] cpos) (tBMF r to t) := by
  constructor
  intro pins s σ H Q I h
  refine wpAny_Call_method_late hbase hfew hline rfl (thn (ho.run pins s σ H _ I h) fun v s1 hh => ?_)
  obtain ⟨x, H1, I1, r1, ⟨a, xs, rfl, ob, hob, hc, hd⟩, q1⟩ := hh
  obtain rfl : v = .ref a := r1
  have hget : s1.heap.get? a = some ob := (I1.hok a _ hob).1
  refine ⟨"tuple", id, PySem.F.plainAttrs_tuple, slot, hty, ⟨ob, hget, hc⟩, fun b z => by cases z; exact ⟨ob, hget, hd⟩, ?_⟩
  have hA := ha.run cpos pins s1 σ H1 _ I1 q1
  rw [hs] at hA ⊢
  refine Calls.callWith_builtin (by
    show (false || (backTo cpos (starEach [] X.env)).any (·.1)) = false
    rw [hplain] <;> rfl) (Calls.evalArgs_plain ?_)
  refine thn hA fun us s2 hz => ?_
  obtain ⟨vs, H2, I2, r2, q2⟩ := hz
  exact hm pins s2 σ H2 (.ref a) vs (.ref a) us Q I2 rfl r2 q2
end
end KX

namespace KX
open PySem PySem.Spec PyProof.Rows L2
/-! t + u and t[lo:hi] of tuples, by what they hold -/
theorem Same.fresh {H : Hp} {a : Addr} {o : HO} (n : H a = none) : Same H (upd H a o) := fun b u h => by
  rw [upd_ne (fun z => by rw [z, n] at h; cases h)]
  exact h
def rCatW : R2 := fun x y H Q => ∃ a b xs ys, x = .ref a ∧ y = .ref b ∧ Tup H a xs ∧ Tup H b ys ∧ xs.length + ys.length ≤ sizeLine ∧
  ∀ H' p, Same H H' → Tup H' p (xs ++ ys) → Q (.ref p) H'
theorem op_catW {X : Cx} : OpR X (binaryOp .Add) rCatW := by
  intro pins s σ H x y v u Q I rx ry h
  obtain ⟨a, b, xs, ys, e1, e2, ha, hb, hz, q⟩ := h
  refine op_catA pins s σ H x y v u Q I rx ry ⟨a, b, xs, ys, e1, e2, ha.sq, hb.sq, hz, fun e => ?_, fun _ e => ?_, fun _ _ p hp => ?_⟩
  · subst e
    exact q H b (Same.refl H) hb
  · subst e
    exact q H a (Same.refl H) (by rw [List.append_nil]; exact ha)
  · exact q _ p (Same.fresh hp) (Tup.of upd_same)
def rSlW : V → Option Int → Option Int → Hp → VK → Prop := fun x lo hi H Q => ∃ a xs, x = .ref a ∧ Tup H a xs ∧
  ∀ H' p, Same H H' → Tup H' p (cutV xs lo hi) → Q (.ref p) H'
theorem sl_tupW {X : Cx} : SlR X rSlW := by
  intro pins s σ H x v vl vu lo hi sl Q I rx hs pl pu h
  obtain ⟨a, xs, e1, ha, q⟩ := h
  refine sl_tupA pins s σ H x v vl vu lo hi sl Q I rx hs pl pu ⟨a, xs, e1, ha.sq, fun e => ?_, fun _ p hp => q _ p (Same.fresh hp) (Tup.of upd_same)⟩
  refine q H a (Same.refl H) ?_
  have z : cutV xs lo hi = xs := by
    unfold cutV
    rw [e.1, e.2]
    simp
  rw [z]
  exact ha
theorem cut_take (xs : List V) {i : Int} (h0 : 0 ≤ i) (h1 : i ≤ xs.length) : cutV xs none (some i) = xs.take i.toNat := by
  obtain ⟨n, rfl⟩ := Int.eq_ofNat_of_zero_le h0
  unfold cutV
  rw [HT.sIx_none, HT.sIx_nat]
  have : min n xs.length = n := by omega
  rw [this]
  simp
theorem cut_drop (xs : List V) {i : Int} (h0 : 0 ≤ i) (h1 : i ≤ xs.length) : cutV xs (some i) none = xs.drop i.toNat := by
  obtain ⟨n, rfl⟩ := Int.eq_ofNat_of_zero_le h0
  unfold cutV
  rw [HT.sIx_none, HT.sIx_nat]
  have : min n xs.length = n := by omega
  rw [this]
  have e : (xs.drop n).take (xs.length - n) = xs.drop n := List.take_of_length_le (by simp)
  simpa using e
end KX

namespace KX
open PySem PySem.Spec PyProof.Rows L2
/-! own == and != of instances, the other side of any class that is not below -/
theorem slot_objNe : Slot "object" "__ne__" "object.__ne__" :=
  Slot.of (T := "object") (name := "__ne__") (owner := "object") (n := "__ne__") (by rw [typeLookup_type, builtinLookup_eq_fast]; kernel_rfl) (by decide +kernel) (by decide +kernel) (by decide +kernel)
    (.inl (by decide +kernel)) (by rw [isSubtype_type]; kernel_rfl)
section
variable {prog : Program} {w : World} {A : Around} {E : Value → Shared → Prop} {s : Shared} {K : PySem.W.Frag} {x C L f : Addr} {ox : Obj} {od : Option Obj} {b tb : Value}
theorem objNe_K (X : K.In s.heap) (I : PySem.W.InstAt s.heap x ox C od) (hu : A.units < cLine) (hs : PySem.W.findIn K (.ref C) "__eq__" = some (some (.ref f))) (hf : PySem.W.isFn K (.ref f) = true) {Q : Fin → Shared → Prop}
    (hcall : wpAny (model prog w) A (call (.ref f) [.ref x, b]) (fun v s' => ∃ c, v = .bool c ∧ Q (.done (.ret (.bool (!c)))) s') E s) :
    wpAny (model prog w) A (Builtin.«object.__ne__» ⟨[.ref x, b], []⟩) Q E s := by
  unfold Builtin.«object.__ne__»
  repeat (first
    | with_reducible refine wpAny_cRoomFor hu ?_
    | (refine wpAny_bind (m := callSpecialIfBound? (.ref x) (Str.ofString "__eq__") [b])
        (PySem.W.ifBound_K X I hs hf (wpAny_mono hcall (fun r s' hr => by
          obtain ⟨c, rfl, hq⟩ := hr
          repeat (first | exact hq | exact wpAny_pure hq | exact wpAny_truthy_bool hq | (refine wpAny_bind (m := truthy (.bool _)) (wpAny_truthy_bool ?_)) | wp_step)) fun _ _ e => e)))
    | wp_step)
theorem ne_K {Q : Value → Shared → Prop} (hu : A.units + 1 < cLine) (X : K.In s.heap) (I : PySem.W.InstAt s.heap x ox C od) (hb : PySem.W.Looks (model prog w) s.heap (typeOf b) tb) (hn : PySem.W.notFirst K C tb = true)
    (hne : PySem.W.findIn K (.ref C) "__ne__" = some (some (.builtin "object.__ne__"))) (hm : PySem.W.mroIn K C (.type "object") = some true)
    (hs : PySem.W.findIn K (.ref C) "__eq__" = some (some (.ref f))) (hf : PySem.W.isFn K (.ref f) = true)
    (hcall : wpAny (model prog w) A.in1 (call (.ref f) [.ref x, b]) (fun v s' => ∃ c, v = .bool c ∧ Q (.bool (!c)) s') E s) :
    wpAny (model prog w) A (richCompare .NotEq (.ref x) b) Q E s := by
  have sub : PySem.W.Looks (model prog w) s.heap (isInstance (.ref x) (.type "object")) true := I.type.andThen (PySem.W.looks_mroIn X hm)
  have one : wpAny (model prog w) A (tryCompare (.ref x) "__ne__" b) (fun r s' => ∃ v, r = some v ∧ Q v s') E s := by
    unfold tryCompare
    refine wpAny_bind ?_
    simp only [callSpecialIfBound?, bindSpecialIfBound?]
    refine wpAny_holding (wpAny_bind (wpAny_bind (wpAny_bind (I.type.here ((PySem.W.looks_findIn X hne).here ?_)))))
    have fin : ∀ Q2 : Option Value → Shared → Prop, (∀ c s', Q (.bool (!c)) s' → Q2 (some (.bool (!c))) s') → wpAny (model prog w) A (call (.builtin "object.__ne__") ([.ref x] ++ [b]) >>= fun v => pure (some v)) Q2 E s := fun Q2 hQ2 => by
      refine wpAny_bind (wpAny_call (codeAny_call_builtin slot_objNe.plain F.cmpEntry_ne (PySem.W.check_slot F.cmpKind_ne F.cmpSplit_ne sub (F.cmpArgs_ne _ _) ?_)))
      refine objNe_K (A := A.in1) X I (Nat.lt_of_le_of_lt (by simp [Around.in1]) hu) hs hf (wpAny_mono hcall (fun v s' hv => ?_) fun _ _ e => e)
      obtain ⟨c, rfl, hq⟩ := hv
      exact ⟨c, rfl, wpAny_pure (hQ2 c s' hq)⟩
    refine wpAny_bind (wpAny_askSetting (wpAny_ite ?_))
    split
    · refine wpAny_bind ?_
      rw [slot_objNe.bind]
      exact wpAny_pure (wpAny_pure (fin _ fun c s' hq => wpAny_pure ⟨_, rfl, hq⟩))
    · refine wpAny_tryCatch (wpAny_bind ?_)
      rw [slot_objNe.bind]
      exact wpAny_pure (wpAny_pure (fin _ fun c s' hq => wpAny_pure ⟨_, rfl, hq⟩))
  unfold richCompare
  simp only [oneThing_ref]
  refine wpAny_holding (wpAny_bind (wpAny_cRoomFor (Nat.lt_of_succ_lt hu) ?_))
  refine wpAny_bind (I.type.here (wpAny_bind (hb.here ?_)))
  split
  · rename_i q
    have e : PySem.W.subIn K tb (.ref C) = some false := by
      rcases Bool.or_eq_true_iff.mp hn with e | e
      · rw [beq_iff_eq.mp e] at q; simp at q
      · exact beq_iff_eq.mp e
    refine wpAny_bind ((PySem.W.looks_subIn X e).here ?_)
    simp only [Bool.false_eq_true, if_false]
    refine wpAny_bind (wpAny_mono one (fun r s' z => ?_) fun _ _ e => e)
    obtain ⟨v, rfl, hq⟩ := z
    exact wpAny_pure hq
  · refine wpAny_bind (wpAny_pure ?_)
    simp only [Bool.false_eq_true, if_false]
    refine wpAny_bind (wpAny_mono one (fun r s' z => ?_) fun _ _ e => e)
    obtain ⟨v, rfl, hq⟩ := z
    exact wpAny_pure hq
end
/-- x == y, x != y: x an instance of the class at C with an own == that answers a bool -/
def rOwnC (K : PySem.W.Frag) (C : Addr) (sp : Sp) (neg : Bool) : R2 := fun x y H Q => ∃ a dx fs tb, x = .ref a ∧ H a = some (.ins C dx fs) ∧ TyX K H y tb ∧ PySem.W.notFirst K C tb = true ∧
  sp [x, y] H (fun z H' => ∃ c, z = .bl c ∧ Q (.bl (neg != c)) H') E0
/-- what of the class must be known -/
structure OwnC (K : PySem.W.Frag) (C f : Addr) : Prop where
  eq : PySem.W.findIn K (.ref C) "__eq__" = some (some (.ref f))
  fn : PySem.W.isFn K (.ref f) = true
  ne : PySem.W.findIn K (.ref C) "__ne__" = some (some (.builtin "object.__ne__"))
  top : PySem.W.mroIn K C (.type "object") = some true
section
variable {X : Cx} {C f : Addr} {fd : FuncData} {ps : List Str} {sp : Sp} {n : Nat}
theorem own_run (F : FnOk X.prog X.w X.K X.mg X.base CX0 n f fd ps sp) (hb : Binds X.K fd ps []) {A : Around} (hr : Room n A) (hA : A.frames = X.A.frames) {pins : List (Addr × Obj)} {s : Shared} {σ : L2.St} {H : Hp} {a : Addr} {y : V} {u : Value} {Q : VK}
    (I : Inv X pins σ H s) (ry : RelV y u) (h : sp [.ref a, y] H Q E0) : wpAny (model X.prog X.w) A (call (.ref f) [.ref a, u]) (EP X pins σ Q) X.xe s := by
  have e0 : Env0 X.prog X.w X.K X.mg X.base A X.stack s H := by
    have e := I.env0
    exact ⟨by rw [hA]; exact e.frames, e.mod, e.bs, e.bsz, e.funs, e.frf, e.hok, e.bare⟩
  have hl := F.len _ _ _ _ h
  have r2 : Vals [V.ref a, y] [Value.ref a, u] := .cons rfl (.cons ry .nil)
  refine wpAny_call (codeAny_mono (F.run A X.stack s H ⟨[.ref a, u], []⟩ [.ref a, u] [.ref a, y] _ E0 hr e0 (by
    have := hb s [.ref a, u] I.kIn (by simpa using hl)
    simpa using this) r2 h) fun r s' hq => ?_)
  cases r with
  | error e => exact (pass0 pins σ H s e s' I hq)
  | ok fl =>
    cases fl with
    | ret w => exact I.after hq
    | next => exact False.elim hq
    | brk => exact False.elim hq
    | cont => exact False.elim hq
theorem op_ownEq (O : OwnC X.K C f) (F : FnOk X.prog X.w X.K X.mg X.base CX0 n f fd ps sp) (hb : Binds X.K fd ps []) (hr : Room n X.A) : OpR X (compareOp .Eq) (rOwnC X.K C sp false) := by
  intro pins s σ H x y v u Q I rx ry h
  obtain ⟨a, dx, fs, tb, rfl, ha, ty, hn, q⟩ := h
  cases rx
  obtain ⟨mA, J, _⟩ := ins_get I.hok ha
  obtain ⟨od, J, _⟩ := J.look
  obtain ⟨m, hF⟩ := I.fr
  obtain ⟨P, Z, p, _⟩ := kit_of I ry ty
  show wpAny (model X.prog X.w) X.A (richCompare .Eq (.ref a) u) (EP X pins σ Q) X.xe s
  refine PySem.W.cmp_K (op := .Eq) (tb := tb) hr.units0 hF I.ok.mod.kin J (Z.ty _ _ I.kIn p) hn O.eq O.fn ?_
  refine wpAny_mono (own_run F hb hr rfl I ry q) (fun r s' z => ?_) fun _ _ x => x
  obtain ⟨z, H', I', rz, c, e, q'⟩ := z
  subst e
  obtain rfl : r = Value.bool c := rz
  have e : (false != c) = c := by cases c <;> rfl
  rw [e] at q'
  exact ⟨.bl c, H', I', rfl, q'⟩
theorem op_ownNe (O : OwnC X.K C f) (F : FnOk X.prog X.w X.K X.mg X.base CX0 n f fd ps sp) (hb : Binds X.K fd ps []) (hr : Room (n + 1) X.A) : OpR X (compareOp .NotEq) (rOwnC X.K C sp true) := by
  intro pins s σ H x y v u Q I rx ry h
  obtain ⟨a, dx, fs, tb, rfl, ha, ty, hn, q⟩ := h
  cases rx
  obtain ⟨mA, J, _⟩ := ins_get I.hok ha
  obtain ⟨od, J, _⟩ := J.look
  obtain ⟨P, Z, p, _⟩ := kit_of I ry ty
  show wpAny (model X.prog X.w) X.A (richCompare .NotEq (.ref a) u) (EP X pins σ Q) X.xe s
  refine ne_K (by have := hr.units; omega) I.kIn J (Z.ty _ _ I.kIn p) hn O.ne O.top O.eq O.fn ?_
  refine wpAny_mono (own_run F hb hr.in1 rfl I ry q) (fun r s' z => ?_) fun _ _ x => x
  obtain ⟨z, H', I', rz, c, e, q'⟩ := z
  subst e
  obtain rfl : r = Value.bool c := rz
  have e : (true != c) = !c := by cases c <;> rfl
  rw [e] at q'
  exact ⟨c, rfl, .bl (!c), H', I', rfl, q'⟩
end
end KX

/-! enumerate(t) of a tuple -/
namespace PySem
open Sem (wp)
theorem meets_enumerate_new1B {v : Value} {o : Obj} {H : Heap → Prop} (B : Begins v o H) :
    Meets (Builtin.«enumerate.__new__» ⟨[.type "enumerate", v], []⟩) (fun _ R s => H s.heap ∧
      R (.ok (.ret (.ref (s.heap.push o).objs.size))) { s with heap := (s.heap.push o).push { cls := .type "enumerate", data := .fields #[.none, .bool false, .ref s.heap.objs.size, rawInt 0, .none, .none] } }) :=
  .of_wp fun prog w A R s h => by
    obtain ⟨hp, g, d, tk, os⟩ := s; obtain ⟨h1, h⟩ := h
    have hsub := sub_enumerate
    have q1 : ∀ {A' : Around} {E : Value → Shared → Prop} {Q : Value → Shared → Prop}, Q (.ref hp.objs.size) ⟨hp.push o, g, d, tk, os⟩ → wpAny (model prog w) A' (pyIter v) Q E ⟨hp, g, d, tk, os⟩ :=
      fun q => B.iter prog w _ _ ⟨hp, g, d, tk, os⟩ _ h1 q
    wp_walk using q1
    refine wpAny_stack_any fun st => wpAny_pure ?_
    split
    · rename_i c _ _ _ _ _
      cases (c == Value.type "enumerate")
      · wp_walk using q1
        exact ⟨_, rfl, h⟩
      · wp_walk using q1
        exact ⟨_, rfl, h⟩
    · wp_walk using q1
      exact ⟨_, rfl, h⟩
section
variable {prog : Program} {w : World} {A : Around} {E : Value → Shared → Prop} {s : Shared}
/-- enumerate(v): its two new cells -/
theorem enum_begins1 {v : Value} {o : Obj} {H : Heap → Prop} {Q : Value → Shared → Prop} (B : Begins v o H) (h1 : H s.heap)
    (h : ∀ h', IsEnum h' (s.heap.objs.size + 1) s.heap.objs.size 0 .none → h'.get? s.heap.objs.size = some o → h'.objs.size = s.heap.objs.size + 2 →
      (∀ b o, s.heap.get? b = some o → h'.get? b = some o) → Q (.ref (s.heap.objs.size + 1)) { s with heap := h' }) :
    wpAny (model prog w) A (call (.type "enumerate") [v]) Q E s := by
  refine callType_new F.called_enumerate (by decide) (F.typeCall_enumerate_1 _) (F.newCall_enumerate_1 _) (fun obj => F.args_object_init_2 obj _) F.entry_enumerate_new
    (meets_enumerate_new1B B) ⟨h1, ?_⟩
  have hz : (s.heap.push o).objs.size = s.heap.objs.size + 1 := Heap.size_push ..
  show _ ∧ _
  rw [hz]
  have he : IsEnum ((s.heap.push o).push { cls := .type "enumerate", data := .fields #[.none, .bool false, .ref s.heap.objs.size, rawInt 0, .none, .none] }) (s.heap.objs.size + 1) s.heap.objs.size 0 .none := by
    have := Heap.get?_push_size (s.heap.push o) (o := { cls := .type "enumerate", data := .fields #[.none, .bool false, .ref s.heap.objs.size, rawInt 0, .none, .none] }) rfl
    rw [hz] at this; exact this
  refine ⟨⟨_, he, rfl⟩, h _ he (Heap.get?_push_of_some _ (Heap.get?_push_size _ B.free)) (by rw [Heap.size_push, hz]) fun b o x => Heap.get?_push_of_some _ (Heap.get?_push_of_some _ x)⟩
end
end PySem
namespace KX
open PySem PySem.Spec PyProof.Rows L2
/-- the tuple at a as it stands at each turn, each item in a new pair -/
def Itn (K : PySem.W.Frag) (a : Addr) : It :=
  ⟨fun i H => ∃ (xs : List V) (x : V), SqT K H a xs ∧ xs[i]? = some x, fun i H v H' => ∃ T x, v = .ref T ∧ H T = none ∧ H' = upd H T (.tup [.int (i : Nat), x]) ∧ ∀ xs, SqT K H a xs → xs[i]? = some x, fun i H => ∃ xs : List V, SqT K H a xs ∧ xs.length ≤ i⟩
theorem apart_tup {h : Heap} {a it : Addr} {its : Array Value} {i : Nat} (p : h.IsTuple a its) (q : h.IsTupleIter it a i) : a ≠ it := fun z => by
  obtain ⟨o, ho, hc, hd⟩ := q
  obtain ⟨o2, ho2, hc2, _⟩ := p
  rw [z, ho] at ho2
  cases ho2
  rw [hc] at hc2
  simp at hc2
theorem turn_enumT {P : Program} {w : World} {K : PySem.W.Frag} {elts : List Expr} {kk : Nat} {tpos : Pos} (a e it : Addr) :
    Turn P w K (.Tuple elts kk tpos) (Itn K a) [e, it] e (fun i h => (∃ old, IsEnum h e it ((i : Nat) : Int) old) ∧ h.IsTupleIter it a i ∧ e ≠ it) where
  mem := by simp
  obj := fun i h st b hb => by
    obtain ⟨⟨old, he⟩, ⟨o, ho, hc, hd⟩, _⟩ := st
    have e' : b = e ∨ b = it := by simpa using hb
    rcases e' with z | z
    · rw [z]; exact ⟨_, he, fun v q => nomatch q⟩
    · rw [z]; exact ⟨o, ho, fun v q => by rw [hd] at q; cases q⟩
  keep := fun i h h' st k => let ⟨⟨old, he⟩, hi, hne⟩ := st; ⟨⟨old, k e (by simp) _ he⟩, hi.at fun o q => k it (by simp) o q, hne⟩
  item := by
    intro X hP hw hK hc i pins s σ H E I hf st hg
    subst hP hw hK
    obtain ⟨⟨old, he⟩, hit, hne⟩ := st
    obtain ⟨xs, x, hq, hx⟩ := hg
    obtain ⟨its, rv, p, hz⟩ := I.tuple hq
    have p : s.heap.IsTuple a its.toArray := p
    have hai := apart_tup p hit
    obtain ⟨u, hu, ru⟩ := rv.get hx
    have hel : e < s.heap.objs.size := Heap.lt_size he
    have hil : it < s.heap.objs.size := by obtain ⟨_, q, _⟩ := hit; exact Heap.lt_size q
    have hea : e ≠ a := fun z => by
      obtain ⟨o2, ho2, hc2, _⟩ := p
      have he' : s.heap.get? e = some _ := he
      rw [z, ho2] at he'
      cases he'
      simp at hc2
    refine wpAny_pyNext_enum_itemD (Draws.tuple (A := X.A.in1) (I.ok.hd hc) it a hai its.toArray) he ⟨hit, p⟩ (by
      obtain ⟨hl, _⟩ := List.getElem?_eq_some_iff.mp hu
      simpa using hl) hne (by simp [hne, hea]) fun x' h' tk hx' ho st' hT hsz hk => ?_
    have hxe : x' = u := by
      have e1 : its[i]? = some x' := by simpa using hx'
      rw [hu] at e1
      exact (Option.some.inj e1).symm
    subst hxe
    refine ⟨_, rfl, wpAny_letOwnedTupleGo_enum (s := { s with heap := h', toks := tk + 1 }) ho fun h'' he' sb => ?_⟩
    have hT2 : h''.get? s.heap.objs.size = some { cls := .type "tuple", data := .seq #[.int i tk, x'] } := (sb.2 _ (Nat.ne_of_gt hel)).trans hT
    have new : ObjOk X.prog X.w (upd H s.heap.objs.size (.tup [.int (i : Nat), x])) h'' s.heap.objs.size (.tup [.int (i : Nat), x]) :=
      ⟨by show 2 ≤ sizeLine; decide, [.int i tk, x'], .cons ⟨_, rfl⟩ (.cons ru .nil), ⟨_, hT2, rfl, _, rfl⟩⟩
    have I1 : Inv X pins σ (upd H s.heap.objs.size (.tup [.int (i : Nat), x])) { s with heap := h'', toks := tk + 1 } :=
      I.turnedNew (ch := [e, it]) (fun b ob hb q => (sb.2 b (fun z => hb (by simp [z]))).trans (hk b ob (fun z => hb (by simp [z])) (fun z => hb (by simp [z])) q)) hf (Nat.le_refl _) new
    refine ⟨.ref s.heap.objs.size, _, I1, rfl, ⟨_, x, rfl, I.hok.fresh (Nat.le_refl _), rfl, fun ys hy => by rw [I.tuple_inj hy hq]; exact hx⟩, ⟨⟨x', ?_⟩, st'.1.at fun o q => (sb.2 it (Ne.symm hne)).trans q, hne⟩, fun b hb => ?_⟩
    · have e1 : ((i + 1 : Nat) : Int) = (i : Int) + 1 := by omega
      rw [e1]; exact he'
    · have hb' : b < s.heap.objs.size := by
        have e' : b = e ∨ b = it := by simpa using hb
        rcases e' with z | z
        · rw [z]; exact hel
        · rw [z]; exact hil
      rw [upd_ne (Nat.ne_of_lt hb')]
      exact (hf b hb).1
  done := by
    intro X hP hw hK hc i pins s σ H E I hf st hg
    subst hP hw hK
    obtain ⟨⟨old, he⟩, hit, hne⟩ := st
    obtain ⟨xs, hq, hx⟩ := hg
    obtain ⟨its, rv, p, hz⟩ := I.tuple hq
    have p : s.heap.IsTuple a its.toArray := p
    obtain ⟨f0, f1, f2, f3, f4, f5⟩ := hf it (by simp)
    have hl := rv.length
    have hT : s.TypeIs (.ref e) "enumerate" := ⟨_, he, rfl⟩
    unfold pyNext
    refine wpAny_bind (wpAny_attempt (wpAny_callSpecial?_slot (name := Str.ofString "__next__") hT F.slot_enumerate_next
      (wpAny_call_entry F.slot_enumerate_next hT F.entry_enumerate_next ?_ (F.args_enumerate_next_1 _))))
    show wpAny _ _ (field (.ref e) 2 >>= _) _ _ _
    refine wpAny_bind (wpAny_field he rfl (x := .ref it) rfl ?_)
    refine wpAny_bind (wpAny_nextOf_tuple_end (I.ok.hd hc) hit p (by simp; omega) fun h' x he' hx' => ?_)
    obtain ⟨o, ho, hc⟩ := hx'
    refine wpAny_bind (wpAny_isInstance (T := "StopIteration") (b := true) ⟨o, ho, hc⟩ isSubtype_stop ?_)
    exact wpAny_pure ⟨rfl, I.turned (t' := s.toks) (fun b o hb q => he' b o hb q) f0 f1 f3 f4 f5⟩
  self := fun A i s Q E st h => let ⟨⟨_, he⟩, _⟩ := st; wpAny_pyIter_enum he h
def iEnumT (K : PySem.W.Frag) (ta : TA) : TI := fun σ H R => ta σ H fun vs H1 => ∃ a xs, vs = [.ref a] ∧ SqT K H1 a xs ∧ R (Itn K a) H1
theorem pi_enumT {X : Cx} {e : Expr} {ta : TA} {p pos tpos : Pos} {elts : List Expr} {kk : Nat} (hg : Gl X "enumerate") (hm : X.mg "enumerate" = none) (ha : PA X [e] ta) (hs : starEach [e] X.env = [(false, eval e X.env)] := by rfl) :
    PI X (.Tuple elts kk tpos) (.Call (.Name "enumerate" p) [e] [] pos) (iEnumT X.K ta) := by
  refine ⟨fun pins s σ H R I h => ?_⟩
  refine Call_ (ld_blt I hg hm boot_enumerate (PyProof.Rows.callWith_type1 (thn (ha.run pos pins s σ H _ I h) fun us s1 ⟨vs, H1, I1, r1, q1⟩ => ?_) hs rfl))
  obtain ⟨a, xs, ex, hq, q⟩ := q1
  subst ex
  cases r1 with
  | cons r rr =>
    cases rr
    cases r
    obtain ⟨its, rv, p', hz⟩ := I1.tuple hq
    have p' : s1.heap.IsTuple a its.toArray := p'
    refine enum_begins1 (begins_tuple a its.toArray) p' fun h' he hit hsz hk => wpAny_pyIter_enum he ?_
    have I2 : Inv X pins σ H1 { s1 with heap := h' } := I1.kept (t' := s1.toks) hk
    refine ⟨s1.heap.objs.size + 1, [s1.heap.objs.size + 1, s1.heap.objs.size], _, _, H1, rfl, I2, turn_enumT a (s1.heap.objs.size + 1) s1.heap.objs.size, ⟨⟨.none, he⟩, ⟨_, hit, rfl, rfl⟩, Nat.succ_ne_self _⟩, fun b hb => ?_, q⟩
    have e' : b = s1.heap.objs.size + 1 ∨ b = s1.heap.objs.size := by simpa using hb
    have hle : s1.heap.objs.size ≤ b := by
      rcases e' with z | z
      · rw [z]; exact Nat.le_add_right _ _
      · rw [z]; exact Nat.le_refl _
    exact I1.fpOk hle (I1.hok.fresh hle)
theorem walk_enumT {K : PySem.W.Frag} {a : Addr} {xs : List V} : Walk (Itn K a) xs.length (fun H => SqT K H a xs) (YPair (fun i => some (.int (i : Nat))) (fun i => xs[i]?)) := by
  refine ⟨fun i _ hi q => ⟨xs, xs[i], q, by simp [hi]⟩, fun _ q => ⟨xs, q, Nat.le_refl _⟩, fun i H v H' _ q y => ?_⟩
  obtain ⟨T, x, h1, h2, h3, h4⟩ := y
  exact ⟨T, .int (i : Nat), x, h1, h2, h3, rfl, h4 xs q⟩
end KX

namespace KX
open PySem PySem.Spec PyProof.Rows L2
/-! readings, one step at a time -/
/-- a new object: any address that was free, the heap behind it -/
def NewO (H : Hp) (o : HO) (Q : VK) : Prop := ∀ p H', H p = none → Same H H' → H' p = some o → Q (.ref p) H'
theorem new_of {H : Hp} {o : HO} {Q : VK} (h : NewO H o Q) : ∀ p, H p = none → Q (.ref p) (upd H p o) := fun p hp => h p _ hp (Same.fresh hp) upd_same
section
variable {σ : L2.St} {H : Hp} {D : Ends} {Q : VK} {QT : Bool → Hp → Prop} {QA : List V → Hp → Prop} {QS : L2.St → Hp → Prop}
theorem rd_seq {t u : TS} (h : t { D with nx := u D } σ H) : tSeq t u D σ H := h
theorem rd_nx {a b c d} (h : a σ H) : ({ nx := a, rt := b, bk := c, ct := d } : Ends).nx σ H := h
theorem rd_rt {a b c d} {v : V} (h : b v H) : ({ nx := a, rt := b, bk := c, ct := d } : Ends).rt v H := h
theorem rd_ct {a b c d} (h : d σ H) : ({ nx := a, rt := b, bk := c, ct := d } : Ends).ct σ H := h
theorem rd_bk {a b c d} (h : c σ H) : ({ nx := a, rt := b, bk := c, ct := d } : Ends).bk σ H := h
theorem rd_next (h : D.nx σ H) : tNext D σ H := h
theorem rd_cont (h : D.ct σ H) : tCont D σ H := h
theorem rd_brk (h : D.bk σ H) : tBreak D σ H := h
theorem rd_drop {te : TE} (h : te σ H fun _ H1 => D.nx σ H1) : tDrop te D σ H := h
theorem rd_ret {te : TE} (h : te σ H D.rt) : tRet te D σ H := h
theorem rd_retN (h : D.rt .non H) : tRetN D σ H := h
theorem rd_ifs {c : TT} {t u : TS} (h : c σ H fun b H1 => if b = true then t D σ H1 else u D σ H1) : tIfS c t u D σ H := h
theorem rd_asg {te : TE} {g : TG} (h : te σ H fun x H1 => g x σ H1 D.nx) : tAsg te g D σ H := h
theorem rd_par {i j : Nat} {ta : TA} (h : ta σ H fun vs H1 => ∃ v w, vs = [v, w] ∧ D.nx ((σ.set i (some v)).set j (some w)) H1) : tPar i j ta D σ H := h
theorem rd_par2 {f : V → V → Prop} {v w : V} (h : f v w) : ∃ x y, [v, w] = [x, y] ∧ f x y := ⟨v, w, rfl, h⟩
theorem rd_par3 {i j l : Nat} {ta : TA} (h : ta σ H fun vs H1 => ∃ u v w, vs = [u, v, w] ∧ D.nx (((σ.set i (some u)).set j (some v)).set l (some w)) H1) : tPar3 i j l ta D σ H := h
theorem rd_par33 {f : V → V → V → Prop} {u v w : V} (h : f u v w) : ∃ z x y, [u, v, w] = [z, x, y] ∧ f z x y := ⟨u, v, w, rfl, h⟩
theorem rd_name {i : Nat} {v : V} (h : QS (σ.set i (some v)) H) : gName i v σ H QS := h
theorem rd_sub {to ti : TE} {t : TSet} {v : V} (h : to σ H fun o H1 => ti σ H1 fun i H2 => t o i v H2 fun H3 => QS σ H3) : gSub to ti t v σ H QS := h
theorem rd_gcons {t : TG} {u : TGs} {v : V} {vs : List V} (h : t v σ H fun σ' H' => u vs σ' H' QS) : gCons t u (v :: vs) σ H QS := ⟨v, vs, rfl, h⟩
theorem rd_gnil (h : QS σ H) : gNil [] σ H QS := ⟨rfl, h⟩
theorem rd_gtup {K : PySem.W.Frag} {n : Nat} {t : TGs} {a : Addr} {xs : List V} (ha : Tup H a xs) (hn : xs.length = n) (h : t xs σ H QS) : gTup K n t (.ref a) σ H QS := ⟨a, xs, rfl, ha.sq, hn, h⟩
theorem rd_glst {K : PySem.W.Frag} {n : Nat} {t : TGs} {a : Addr} {xs : List V} (ha : H a = some (.lst xs)) (hn : xs.length = n) (h : t xs σ H QS) : gLst K n t (.ref a) σ H QS := ⟨a, xs, rfl, SqL.of ha, hn, h⟩
theorem rd_var {i : Nat} {v : V} (e : σ[i]? = some (some v)) (h : Q v H) : tVar i σ H Q := ⟨v, e, h⟩
theorem rd_c {v : V} (h : Q v H) : tC v σ H Q := h
theorem rd_op {r : R2} {ta tb : TE} (h : ta σ H fun x H1 => tb σ H1 fun y H2 => r x y H2 Q) : tOp r ta tb σ H Q := h
theorem rd_un {r : V → Hp → VK → Prop} {ta : TE} (h : ta σ H fun x H1 => r x H1 Q) : tUn r ta σ H Q := h
theorem rd_tB {t : TE} (h : t σ H fun x H1 => ∃ c, x = .bl c ∧ QT c H1) : tB t σ H QT := h
theorem rd_test {t : TE} (h : t σ H fun x H1 => ∃ c, x = .bl c ∧ QT c H1) : tTest t σ H QT := h
theorem rd_bl {f : Bool → Prop} {b : Bool} (h : f b) : ∃ c, V.bl b = .bl c ∧ f c := ⟨b, rfl, h⟩
theorem rd_and {t u : TT} (h : t σ H fun c H1 => if c = true then u σ H1 QT else QT false H1) : tAnd t u σ H QT := h
theorem rd_or {t u : TT} (h : t σ H fun c H1 => if c = true then QT true H1 else u σ H1 QT) : tOr t u σ H QT := h
theorem rd_not {t : TT} (h : t σ H fun c H1 => QT (!c) H1) : tNot t σ H QT := h
theorem rd_yes (h : QT true H) : tYes σ H QT := h
theorem rd_andV {ta tb : TE} (h : ta σ H fun x H1 => ∃ c, x = .bl c ∧ if c = true then tb σ H1 Q else Q (.bl false) H1) : tAndV ta tb σ H Q := h
theorem rd_orV {ta tb : TE} (h : ta σ H fun x H1 => ∃ c, x = .bl c ∧ if c = true then Q (.bl true) H1 else tb σ H1 Q) : tOrV ta tb σ H Q := h
theorem rd_notV {ta : TE} (h : ta σ H fun x H1 => ∃ c, x = .bl c ∧ Q (.bl (!c)) H1) : tNotV ta σ H Q := h
theorem rd_if {t : TT} {ta tb : TE} (h : t σ H fun c H1 => if c = true then ta σ H1 Q else tb σ H1 Q) : tIf t ta tb σ H Q := h
theorem rd_isN {ta : TE} (h : ta σ H fun x H1 => Q (.bl (decide (x = .non))) H1) : tIsN ta σ H Q := h
theorem rd_iT {A B : Prop} (h : A) : if true = true then A else B := by rw [if_pos rfl]; exact h
theorem rd_iF {A B : Prop} (h : B) : if false = true then A else B := by rw [if_neg (by decide)]; exact h
theorem rd_nil (h : QA [] H) : tNil σ H QA := h
theorem rd_cons {ta : TE} {tr : TA} (h : ta σ H fun x H1 => tr σ H1 fun xs H2 => QA (x :: xs) H2) : tCons ta tr σ H QA := h
/-- behind a display's items -/
def TupTail (Q : VK) (xs : List V) (H1 : Hp) : Prop := xs.length ≤ sizeLine ∧ ∀ p, H1 p = none → Q (.ref p) (upd H1 p (.tup xs))
def LstTail (Q : VK) (xs : List V) (H1 : Hp) : Prop := xs.length ≤ sizeLine ∧ ∀ p, H1 p = none → Q (.ref p) (upd H1 p (.lst xs))
theorem rd_tup {t : TA} (h : t σ H (TupTail Q)) : tTup t σ H Q := h
theorem rd_lst {t : TA} (h : t σ H (LstTail Q)) : tLst t σ H Q := h
theorem rd_tupT {xs : List V} (hl : xs.length ≤ 1000 := by decide) (h : NewO H (.tup xs) Q) : TupTail Q xs H := ⟨Nat.le_trans hl (by decide), new_of h⟩
theorem rd_lstT {xs : List V} (hl : xs.length ≤ 1000 := by decide) (h : NewO H (.lst xs) Q) : LstTail Q xs H := ⟨Nat.le_trans hl (by decide), new_of h⟩
theorem rd_call {sp : Sp} {dvs : List V} {E : XK} {t : TA} (h : t σ H fun vs H1 => sp (vs ++ dvs) H1 Q E) : tCall sp dvs E t σ H Q := h
theorem rd_cb {r : List V → Hp → VK → Prop} {t : TA} (h : t σ H fun vs H1 => r vs H1 Q) : tCB r t σ H Q := h
theorem rd_bm {K : PySem.W.Frag} {T : String} {r : V → List V → Hp → VK → Prop} {to : TE} {t : TA} (h : to σ H fun x H1 => tyV K T x H1 ∧ t σ H1 fun xs H2 => r x xs H2 Q) : tBM K T r to t σ H Q := h
theorem rd_bm0 {K : PySem.W.Frag} {T : String} {r : V → List V → Hp → VK → Prop} {to : TE} (h : to σ H fun x H1 => tyV K T x H1 ∧ r x [] H1 Q) : tBM0 K T r to σ H Q := h
theorem rd_sl {r : V → Option Int → Option Int → Hp → VK → Prop} {te : TE} {tl th : TO} (h : te σ H fun x H1 => tl σ H1 fun l H2 => th σ H2 fun u H3 => r x l u H3 Q) : tSl r te tl th σ H Q := h
theorem rd_noP {Q : Option Int → Hp → Prop} (h : Q none H) : tNoPart σ H Q := h
theorem rd_part {t : TE} {Q : Option Int → Hp → Prop} (h : t σ H fun x H1 => ∃ i, x = .int i ∧ Q (some i) H1) : tPart t σ H Q := h
theorem rd_int {f : Int → Prop} {i : Int} (h : f i) : ∃ j, V.int i = .int j ∧ f j := ⟨i, rfl, h⟩
theorem rd_int1 {f : Int → Prop} {i : Int} (h : f i) : ∃ j, [V.int i] = [.int j] ∧ f j := ⟨i, rfl, h⟩
theorem rd_fld {K : PySem.W.Frag} {ta : TE} {f : Str} (h : ta σ H fun x H1 => ∃ a C dx fs v, x = .ref a ∧ H1 a = some (.ins C dx fs) ∧ Cls K C ∧ NoAttr K C f ∧ fs.lookup f = some v ∧ Q v H1) : tFld K ta f σ H Q := h
theorem rd_ilist {K : PySem.W.Frag} {tl : TE} {R : It → Hp → Prop} (h : tl σ H fun x H1 => ∃ a, x = .ref a ∧ (∃ xs, SqL K H1 a xs) ∧ R (Itl K a) H1) : iList K tl σ H R := h
theorem rd_itup {K : PySem.W.Frag} {tl : TE} {R : It → Hp → Prop} (h : tl σ H fun x H1 => ∃ a, x = .ref a ∧ (∃ xs, SqT K H1 a xs) ∧ R (Itt K a) H1) : iTup K tl σ H R := h
theorem rd_rng1 {ta : TA} {R : It → Hp → Prop} (h : ta σ H fun vs H1 => ∃ j : Int, vs = [.int j] ∧ -(2 ^ 62) ≤ j ∧ j < 2 ^ 62 ∧ R (Itr 0 j.toNat) H1) : iRng1 ta σ H R := h
theorem rd_enum {K : PySem.W.Frag} {ta : TA} {R : It → Hp → Prop} (h : ta σ H fun vs H1 => ∃ a xs, vs = [.ref a] ∧ SqL K H1 a xs ∧ R (Ite K a) H1) : iEnum K ta σ H R := h
theorem rd_enumT {K : PySem.W.Frag} {ta : TA} {R : It → Hp → Prop} (h : ta σ H fun vs H1 => ∃ a xs, vs = [.ref a] ∧ SqT K H1 a xs ∧ R (Itn K a) H1) : iEnumT K ta σ H R := h
theorem rd_rng1v {j : Int} {n : Nat} {R : It → Prop} (hj : j = n) (hn : n < 1000000) (h : R (Itr 0 n)) : ∃ k : Int, [V.int j] = [.int k] ∧ -(2 ^ 62) ≤ k ∧ k < 2 ^ 62 ∧ R (Itr 0 k.toNat) := by
  subst hj
  exact ⟨_, rfl, by omega, by omega, h⟩
/-! operators by values -/
theorem rd_rI0 {g : Int → Int → V} {i j : Int} (h : Q (g i j) H) : rI0 g (.int i) (.int j) H Q := ⟨i, j, rfl, rfl, h⟩
theorem rd_rI {C : Int → Int → Prop} {g : Int → Int → V} {i j : Int} (hc : C i j) (h : Q (g i j) H) : rI C g (.int i) (.int j) H Q := ⟨i, j, rfl, rfl, hc, h⟩
theorem rd_rU {g : Int → V} {i : Int} (h : Q (g i) H) : rU g (.int i) H Q := ⟨i, rfl, h⟩
theorem rd_eqI {i j : Int} (h : Q (.bl (decide (i = j))) H) : rEq (.int i) (.int j) H Q := by
  refine ⟨rfl, ?_⟩
  have e : decide (V.int i = V.int j) = decide (i = j) := by by_cases z : i = j <;> simp [z]
  rw [e]; exact h
theorem rd_neI {i j : Int} (h : Q (.bl (!decide (i = j))) H) : rNe (.int i) (.int j) H Q := by
  refine ⟨rfl, ?_⟩
  have e : decide (V.int i = V.int j) = decide (i = j) := by by_cases z : i = j <;> simp [z]
  rw [e]; exact h
theorem rd_ixL {K : PySem.W.Frag} {p : Addr} {xs : List V} {i : Int} {v : V} (ha : H p = some (.lst xs)) (e : atI xs i = some v) (h : Q v H) : rIxL K (.ref p) (.int i) H Q := ⟨p, xs, i, v, rfl, rfl, SqL.of ha, e, h⟩
theorem rd_ixT {K : PySem.W.Frag} {p : Addr} {xs : List V} {i : Int} {v : V} (ha : Tup H p xs) (e : atI xs i = some v) (h : Q v H) : rIxT K (.ref p) (.int i) H Q := ⟨p, xs, i, v, rfl, rfl, ha.sq, e, h⟩
theorem rd_cat {a b : Addr} {xs ys : List V} (ha : H a = some (.lst xs)) (hb : H b = some (.lst ys)) (hl : xs.length + ys.length ≤ 1000000) (h : NewO H (.lst (xs ++ ys)) Q) : rCat (.ref a) (.ref b) H Q :=
  ⟨a, b, xs, ys, rfl, rfl, ha, hb, Nat.le_trans hl (by decide), new_of h⟩
theorem rd_slL {K : PySem.W.Frag} {a : Addr} {xs : List V} {lo hi : Option Int} (ha : H a = some (.lst xs)) (h : NewO H (.lst (cutV xs lo hi)) Q) : rSlL K (.ref a) lo hi H Q := ⟨a, xs, rfl, SqL.of ha, new_of h⟩
theorem rd_app {l : Addr} {xs : List V} {y : V} (ha : H l = some (.lst xs)) (hl : xs.length < 1000000) (h : Q .non (upd H l (.lst (xs ++ [y])))) : rAppend (.ref l) [y] H Q :=
  ⟨l, xs, y, rfl, rfl, ha, Nat.lt_of_lt_of_le hl (by decide), h⟩
theorem rd_lenL {X : Cx} {p : Addr} {ys : List V} (ha : H p = some (.lst ys)) (h : Q (.int ys.length) H) : ∃ p' ys', [V.ref p] = [.ref p'] ∧ (SqL X.K H p' ys' ∨ SqT X.K H p' ys') ∧ Q (.int ys'.length) H := ⟨p, ys, rfl, .inl (SqL.of ha), h⟩
theorem rd_then {ta : TE} {k : V → Hp → VK → Prop} (h : ta σ H fun x H1 => k x H1 Q) : tThen ta k σ H Q := h
theorem rd_raise {C : Addr} {W : WX} {ta : TA} (h : ta σ H fun vs H1 => ∃ v, vs = [v] ∧ ∀ d, H1 d = none → W (.ref C) (some d) σ (upd H1 d (.xd [(("at" : Str), v)]))) : tRaiseErr C W ta D σ H := h
theorem rd_one {f : V → Prop} {v : V} (h : f v) : ∃ w, [v] = [w] ∧ f w := ⟨v, rfl, h⟩
theorem rd_sfld {K : PySem.W.Frag} {ta tv : TE} {f : Str} (h : tv σ H fun y H1 => ta σ H1 fun x H2 => ∃ a C dx fs, x = .ref a ∧ H2 a = some (.ins C dx fs) ∧ Cls K C ∧ NoAttr K C f ∧ fs.length < 1000 ∧ D.nx σ (upd H2 a (.ins C dx (putF f y fs)))) : sFld K ta tv f D σ H := h
end
end KX

namespace KX
open PySem PySem.Spec PyProof.Rows L2 L2H LamX
/-! the law's own call under CG, with some tables of code objects -/
section
variable {P : Program} {w : World} {K : PySem.W.Frag} {mg mb : Str → Option Value} {CX : CXT} {k : Nat} {fa a : Addr} {ts : List (Addr × Addr)}
  {fd : FuncData} {x : Str} {sp : Sp} {s₁ : Shared} {vs : List Value}
/-- only the script and the tables are tracked -/
structure OnlyS (H : Hp) (a : Addr) (ts : List (Addr × Addr)) : Prop where
  tab : ∀ p ∈ ts, H p.2 = some (.tbl #[])
  who : ∀ b, H b ≠ none → b = a ∨ ∃ p ∈ ts, b = p.2
  frz : ∀ u, H a = some u → ∃ o xs, u = .frz o (.lst xs)
theorem OnlyS.off {H : Hp} {b : Addr} (O : OnlyS H a ts) (h1 : b ≠ a) (h2 : ∀ p ∈ ts, b ≠ p.2) : H b = none :=
  Classical.byContradiction fun z => (O.who b z).elim h1 fun ⟨p, hp, e⟩ => h2 p hp e
theorem lawS_core {H : Hp}
    (KI : K.In s₁.heap) (hns : s₁.heap.Ns mainGlobals mg) (hb : s₁.heap.Ns builtinsNs mb)
    (hbb : ∀ x : Str, x ≠ "__name__" → mb x = bootBuiltins x) (hlim : s₁.heap.NoLimit) (hg : s₁.gens = #[])
    (ht : ∀ p ∈ ts, s₁.heap.get? p.2 = some { cls := .none, data := .fields #[] }) (nt : ∀ p ∈ ts, K.lookup p.2 = none) (C : ∀ p ∈ ts, PySem.W.CodeHd s₁.heap p.1 p.2)
    (hbm : ∃ (bm : Addr) (ob : Obj), mg "__builtins__" = some (.ref bm) ∧ bm ≠ builtinsNs ∧ s₁.heap.get? bm = some ob ∧ ob.cls = .type "module" ∧ ob.dict = some builtinsNs ∧ ob.data = .plain)
    (ha : s₁.heap.get? a = some { cls := .type "list", data := .seq vs.toArray }) (hr : Room k callerA)
    (F : ∀ base : Heap, K.In base → base.Ns mainGlobals mg → (∀ p ∈ ts, TabB base mg p.1 p.2) → FnR P w K mg base CX (CG k) fa fd [x] sp)
    (hbind : ∀ (s : Shared) (u : Value), BindsTo s fd ⟨[u], []⟩ [(x, u)])
    (hCX : ∀ H e s', CX [] H s₁ (fun _ _ _ => False) e s' → False)
    (O : OnlyS H a ts) (hS : sp [.ref a] H (fun v _ => v = .bl true) fun _ _ _ => False) (hok : HOk P w H s₁.heap)
    (hK : H a ≠ none → K.lookup a = none) :
    codeAny (model P w) callerA (.call (.ref fa) ⟨[.ref a], []⟩)
      (fun r s' => r = .ok (.ret (.bool true)) ∧ OldK s₁.heap s'.heap ∧ s'.os = s₁.os ∧ AllBare s'.gens) s₁ := by
  have sees : ∀ {b : Addr} {o : Obj}, s₁.heap.get? b = some o → (∀ vs n, o.data ≠ .seq vs n) → o.data ≠ .fields #[] →
      (hidT s₁.heap H).get? b = some o := fun {b o} e h1 h2 => hidT_get e (O.off (fun z => by
        subst z
        rw [ha] at e
        cases e
        exact h1 _ _ rfl) fun p hp z => by
        subst z
        rw [ht p hp] at e
        cases e
        exact h2 rfl)
  have nsH : ∀ {b : Addr} {m : Str → Option Value}, s₁.heap.Ns b m → (hidT s₁.heap H).Ns b m := fun {b m} n => by
    obtain ⟨o, es, ep, e, d, r⟩ := n
    exact ⟨o, es, ep, sees e (fun vs n z => by rw [d] at z; cases z) (fun z => by rw [d] at z; cases z), d, r⟩
  have KB : K.In (hidT s₁.heap H) := fun b o e => hidT_get (KI b o e) (Classical.byContradiction fun z => by
    rcases O.who b z with h | ⟨p, hp, h⟩
    · subst h
      rw [hK z] at e
      cases e
    · subst h
      rw [nt p hp] at e
      cases e)
  have MB : Mod K mg (hidT s₁.heap H) := by
    obtain ⟨mc, h1, h2⟩ := hlim
    exact ⟨KB, nsH hns, ⟨mb, nsH hb, hbb⟩, ⟨mc, nsH h1, h2⟩⟩
  have TB : ∀ p ∈ ts, TabB (hidT s₁.heap H) mg p.1 p.2 := fun p hp => by
    refine ⟨?_, ?_, fun z => ?_⟩
    · obtain ⟨o, us, file, tf, flags, tg, inF, text, tt, e1, r1, r2, r3, rest⟩ := C p hp
      refine ⟨o, us, file, tf, flags, tg, inF, text, tt, sees e1 (fun vs n z => ?_) (fun z => ?_), r1, r2, r3, rest⟩
      · rw [r2] at z
        cases z
      · rw [r2] at z
        cases z
        simp at r3
    · obtain ⟨bm, ob, b1, b2, b3, b4, b5, b6⟩ := hbm
      refine ⟨bm, ob, b1, b2, fun q => ?_, fun q => ?_, sees b3 (fun vs n z => by rw [b6] at z; cases z) (fun z => by rw [b6] at z; cases z), b4, b5, b6⟩
      · obtain ⟨o, es, ep, e, hd, _⟩ := hns
        rw [q, e] at b3
        cases b3
        rw [hd] at b6
        cases b6
      · rw [q, ht p hp] at b3
        cases b3
        cases b6
    · obtain ⟨o, es, ep, e, hd, _⟩ := hns
      rw [z, ht p hp] at e
      cases e
      cases hd
  have e0 : Env0 P w K mg (hidT s₁.heap H) callerA [] s₁ H :=
    ⟨rfl, MB, fun b o e => of_hidT e, Nat.le_of_eq (hidT_size _ _), trivial,
      fun b hb => absurd (show b ∈ ([] : List Addr) from hb) (by simp), hok, .of_eq hg⟩
  refine codeAny_mono ((F _ KB (nsH hns) TB).does callerA [] s₁ H ⟨[.ref a], []⟩ [.ref a] [.ref a] _ _ ⟨hr, rfl⟩ e0
    (hbind s₁ (.ref a)) (.cons rfl .nil) hS) fun r s' h => ?_
  match r, h with
  | .error e, h => exact (hCX H e s' h).elim
  | .ok (.ret u), h =>
    obtain ⟨v, H', os, bare, un, hok', r', q⟩ := h
    have q' : v = .bl true := q
    subst q'
    obtain rfl : u = Value.bool true := r'
    have hm : ∀ p ∈ ts, ∃ more : Array Value, s'.heap.get? p.2 = some { cls := .none, data := .fields more } := fun p hp => by
      obtain ⟨more, z⟩ := un.tbls p.2 #[] (O.tab p hp)
      exact ⟨_, hok' p.2 _ z⟩
    have other : ∀ b o, (∀ p ∈ ts, b ≠ p.2) → s₁.heap.get? b = some o → s'.heap.get? b = some o := fun b o nb e => by
      cases q : H b with
      | none => exact un.keep b o e q (by intro z; exact absurd (show b ∈ ([] : List Addr) from z) (by simp)) (by simp)
      | some u =>
        have eb : b = a := (O.who b (by rw [q]; exact fun z => nomatch z)).resolve_right fun ⟨p, hp, z⟩ => nb p hp z
        subst eb
        obtain ⟨ob, xs, rfl⟩ := O.frz _ q
        have e1 := (hok b _ q).1
        have e2 := (hok' b _ (un.frzs b ob _ q)).1
        rw [e] at e1
        cases e1
        exact e2
    refine ⟨rfl, ⟨fun b o e => ?_, fun b o e => ?_⟩, os, bare⟩
    · by_cases h : ∃ p ∈ ts, b = p.2
      · obtain ⟨p, hp, rfl⟩ := h
        obtain ⟨more, hm⟩ := hm p hp
        rw [ht p hp] at e
        cases e
        exact .inr (.inl ⟨((C p hp).tab (ht p hp)).isCodeTable, rfl, #[], more, rfl, by rw [Array.empty_append]; exact hm⟩)
      · exact .inl (other b o (fun p hp z => h ⟨p, hp, z⟩) e)
    · by_cases h : ∃ p ∈ ts, b = p.2
      · obtain ⟨p, hp, rfl⟩ := h
        obtain ⟨more, hm⟩ := hm p hp
        exact ⟨_, hm⟩
      · exact ⟨o, other b o (fun p hp z => h ⟨p, hp, z⟩) e⟩
theorem law_callS {ns : List Int}
    (KI : K.In s₁.heap) (hns : s₁.heap.Ns mainGlobals mg) (hb : s₁.heap.Ns builtinsNs mb)
    (hbb : ∀ x : Str, x ≠ "__name__" → mb x = bootBuiltins x) (hlim : s₁.heap.NoLimit) (hg : s₁.gens = #[])
    (ht : ∀ p ∈ ts, s₁.heap.get? p.2 = some { cls := .none, data := .fields #[] }) (nt : ∀ p ∈ ts, K.lookup p.2 = none) (C : ∀ p ∈ ts, PySem.W.CodeHd s₁.heap p.1 p.2)
    (hbm : ∃ (bm : Addr) (ob : Obj), mg "__builtins__" = some (.ref bm) ∧ bm ≠ builtinsNs ∧ s₁.heap.get? bm = some ob ∧ ob.cls = .type "module" ∧ ob.dict = some builtinsNs ∧ ob.data = .plain)
    (ha : s₁.heap.get? a = some { cls := .type "list", data := .seq vs.toArray }) (hi : IntsAre vs ns) (hl : ns.length ≤ sizeLine) (hr : Room k callerA)
    (F : ∀ base : Heap, K.In base → base.Ns mainGlobals mg → (∀ p ∈ ts, TabB base mg p.1 p.2) → FnR P w K mg base CX (CG k) fa fd [x] sp)
    (hbind : ∀ (s : Shared) (u : Value), BindsTo s fd ⟨[u], []⟩ [(x, u)])
    (hsp : ∀ H : Hp, (∀ p ∈ ts, H p.2 = some (.tbl #[])) → SqL K H a (ns.map V.int) → sp [.ref a] H (fun v _ => v = .bl true) fun _ _ _ => False)
    (hCX : ∀ H e s', CX [] H s₁ (fun _ _ _ => False) e s' → False) :
    codeAny (model P w) callerA (.call (.ref fa) ⟨[.ref a], []⟩)
      (fun r s' => r = .ok (.ret (.bool true)) ∧ OldK s₁.heap s'.heap ∧ s'.os = s₁.os ∧ AllBare s'.gens) s₁ := by
  have rv := vals_ints hi
  have nat : ∀ p ∈ ts, a ≠ p.2 := fun p hp z => by
    rw [z, ht p hp] at ha
    cases ha
  cases hk : K.lookup a with
  | some o =>
    have e := KI a o hk
    rw [ha] at e
    cases e
    let H : Hp := fun b => if b ∈ ts.map (·.2) then some (.tbl #[]) else none
    have atT : ∀ p ∈ ts, H p.2 = some (.tbl #[]) := fun p hp => if_pos (List.mem_map.mpr ⟨p, hp, rfl⟩)
    have off : ∀ {b}, b ∉ ts.map (·.2) → H b = none := fun h => if_neg h
    have on : ∀ {b}, b ∈ ts.map (·.2) → ∃ p ∈ ts, b = p.2 := fun h => by
      obtain ⟨p, hp, e⟩ := List.mem_map.mp h
      exact ⟨p, hp, e.symm⟩
    have noff : a ∉ ts.map (·.2) := fun h => by
      obtain ⟨p, hp, e⟩ := on h
      exact nat p hp e
    have S : SqL K H a (ns.map V.int) :=
      Or.inr ⟨_, vs.toArray, _, hk, rfl, rfl, rfl, by rw [List.size_toArray, hi.length]; exact hl, by simpa using rv⟩
    have O : OnlyS H a ts := ⟨atT, fun b z => Or.inr (on (Classical.byContradiction fun h => z (off h))), fun u z => by rw [off noff] at z; cases z⟩
    refine lawS_core KI hns hb hbb hlim hg ht nt C hbm ha hr F hbind hCX O (hsp _ atT S) (fun b u z => ?_) fun z => absurd (off noff) z
    by_cases h : b ∈ ts.map (·.2)
    · obtain ⟨p, hp, rfl⟩ := on h
      rw [atT p hp] at z
      cases z
      exact ht p hp
    · rw [off h] at z
      cases z
  | none =>
    let H : Hp := fun b => if b = a then some (.frz { cls := .type "list", data := .seq vs.toArray } (.lst (ns.map V.int))) else if b ∈ ts.map (·.2) then some (.tbl #[]) else none
    have on : ∀ {b}, b ∈ ts.map (·.2) → ∃ p ∈ ts, b = p.2 := fun h => by
      obtain ⟨p, hp, e⟩ := List.mem_map.mp h
      exact ⟨p, hp, e.symm⟩
    have atA : H a = some (.frz { cls := .type "list", data := .seq vs.toArray } (.lst (ns.map V.int))) := if_pos rfl
    have atT : ∀ p ∈ ts, H p.2 = some (.tbl #[]) := fun p hp => (if_neg (Ne.symm (nat p hp))).trans (if_pos (List.mem_map.mpr ⟨p, hp, rfl⟩))
    have off : ∀ {b}, b ≠ a → b ∉ ts.map (·.2) → H b = none := fun h h' => (if_neg h).trans (if_neg h')
    have S : SqL K H a (ns.map V.int) := Or.inl (Or.inr ⟨_, atA⟩)
    have O : OnlyS H a ts := ⟨atT, fun b z => by
      by_cases h : b = a
      · exact Or.inl h
      · exact Or.inr (on (Classical.byContradiction fun h' => z (off h h'))), fun u z => by rw [atA] at z; cases z; exact ⟨_, _, rfl⟩⟩
    refine lawS_core KI hns hb hbb hlim hg ht nt C hbm ha hr F hbind hCX O (hsp _ atT S) (fun b u z => ?_) fun _ => hk
    by_cases h : b = a
    · subst h
      rw [atA] at z
      cases z
      exact ⟨ha, by rw [List.length_map]; exact hl, vs, _, rv, ha⟩
    · by_cases h' : b ∈ ts.map (·.2)
      · obtain ⟨p, hp, rfl⟩ := on h'
        rw [atT p hp] at z
        cases z
        exact ht p hp
      · rw [off h h'] at z
        cases z
end
/-- what k_head leaves, by the law's promise under CG; ts: the tables of the code objects -/
theorem walk_ofS {l : PySem.W.OpenLaw} {n k : Nat} {q : Program} {loose : List Str} {XP : (Str → Option Value) → Heap → Prop}
    {YP : World → Heap → Prop} {d : DefRec} {K : Params → PySem.W.Frag} {CX : CXT} {x : Str} {ts : List (Addr × Addr)} {sp : PySem.W.Frag → Sp}
    (hn : l.most = some n) (hn2 : n ≤ sizeLine) (hdf : d.params.defaults = []) (hr : Room k callerA)
    (hY : ∀ (w : World) (h : Heap), YP w h → (K w.params).In h)
    (hT : ∀ (w : World) (h : Heap), YP w h → ∀ p ∈ ts, h.get? p.2 = some { cls := .none, data := .fields #[] })
    (hcd : ∀ w : World, ∀ p ∈ ts, PySem.W.codeHdIn (K w.params) p.1 p.2 = true) (nt : ∀ w : World, ∀ p ∈ ts, (K w.params).lookup p.2 = none)
    (F : ∀ (w : World) (mg : Str → Option Value) (fa : Addr) (h : Heap), (K w.params).In h → h.Ns mainGlobals mg →
      mg d.name = some (.ref fa) → ∃ fd : FuncData, (∀ (s : Shared) (u : Value), BindsTo s fd ⟨[u], []⟩ [(x, u)]) ∧
        ∀ base : Heap, (K w.params).In base → base.Ns mainGlobals mg → (∀ p ∈ ts, TabB base mg p.1 p.2) →
          FnR l.prog w (K w.params) mg base CX (CG k) fa fd [x] (sp (K w.params)))
    (hsp : ∀ (K : PySem.W.Frag) (H : Hp) (a : Addr) (ns : List Int), ns.length ≤ n → (∀ p ∈ ts, H p.2 = some (.tbl #[])) → SqL K H a (ns.map V.int) →
      sp K [.ref a] H (fun v _ => v = .bl true) fun _ _ _ => False)
    (hCX : ∀ (H : Hp) (s : Shared) (e : Value) (s' : Shared), CX [] H s (fun _ _ _ => False) e s' → False) :
    PySem.W.WalkO q loose XP YP l.row.toRowW d [] (fun f vs => PySem.call f vs) := by
  refine Att.attach_call hn hdf fun w s₀ s₁ mg mb fa o pm cd doc a vs ns G Y ho hd hcd' hmg hobj hints hlen hg => ?_
  have KI := hY w _ Y
  obtain ⟨fd, hb, hF⟩ := F w mg fa _ KI G.T.g hmg
  exact law_callS KI G.T.g G.T.b G.T.builtins G.T.nolimit hg (hT w _ Y) (nt w) (fun p hp => PySem.W.codeHd_of_K KI (hcd w p hp)) G.T.bmain hobj hints (Nat.le_trans hlen hn2) hr hF hb
    (fun H hH hS => hsp (K w.params) H a ns hlen hH hS) fun H e s' => hCX H s₁ e s'
end KX

namespace KX
open PySem PySem.Spec PyProof.Rows L2
/-! the rules that name the written part, with the written part handed in -/
section
variable {X : Cx} {K : PySem.W.Frag}
theorem cr_sortedK (hK : X.K = K := by rfl) : CallR X (.builtin "sorted") (rSorted K) := by subst hK; exact cr_sorted
theorem cr_sortTK (hK : X.K = K := by rfl) : CallR X (.builtin "sorted") (rSortT K) := by subst hK; exact cr_sortT
theorem cr_sortedPOK (hK : X.K = K := by rfl) : CallR X (.builtin "sorted") (rSortedPO K) := by subst hK; exact cr_sortedPO
theorem cr_maxK (hc : X.calm = true) (hK : X.K = K := by rfl) : CallR X (.builtin "max") (rMax K) := by subst hK; exact cr_max hc
theorem cr_minK (hc : X.calm = true) (hK : X.K = K := by rfl) : CallR X (.builtin "min") (rMin K) := by subst hK; exact cr_min hc
theorem cr_sumK (hc : X.calm = true) (hK : X.K = K := by rfl) : CallR X (.builtin "sum") (rSum K) := by subst hK; exact cr_sum hc
theorem cr_allK (hc : X.calm = true) (hK : X.K = K := by rfl) : CallR X (.builtin "all") (rAll K) := by subst hK; exact cr_all hc
theorem cr_anyK (hc : X.calm = true) (hK : X.K = K := by rfl) : CallR X (.builtin "any") (rAny K) := by subst hK; exact cr_any hc
theorem cr_reprK (hg : X.A.guards = some []) (hu : X.A.units + 66 < cLine) (hK : X.K = K := by rfl) : CallR X (.builtin "repr") (rRepr K) := by subst hK; exact cr_repr hg hu
def rLenS (K : PySem.W.Frag) : List V → Hp → VK → Prop := fun xs H Q => ∃ p ys, xs = [.ref p] ∧ (SqL K H p ys ∨ SqT K H p ys) ∧ Q (.int ys.length) H
theorem cr_lenK (hK : X.K = K := by rfl) : CallR X (.builtin "len") (rLenS K) := by subst hK; exact call_len_seq
def rListS (K : PySem.W.Frag) : List V → Hp → VK → Prop := fun xs H Q => ∃ p ys, xs = [.ref p] ∧ (SqL K H p ys ∨ SqT K H p ys) ∧ ∀ l, H l = none → Q (.ref l) (upd H l (.lst ys))
theorem cr_listK (hK : X.K = K := by rfl) : CallR X (.type "list") (rListS K) := by subst hK; exact call_list_of
theorem cr_isiK (hK : X.K = K := by rfl) : CallR X (.builtin "isinstance") (rIsi K) := by subst hK; exact call_isi
theorem cr_isiTK (hK : X.K = K := by rfl) : CallR X (.builtin "isinstance") (rIsiT K) := by subst hK; exact call_isiT
theorem ix_listK (hK : X.K = K := by rfl) : IxR X (rIxL K) := by subst hK; exact ix_list
theorem ix_tupK (hK : X.K = K := by rfl) : IxR X (rIxT K) := by subst hK; exact ix_tup
theorem sl_listK (hK : X.K = K := by rfl) : SlR X (rSlL K) := by subst hK; exact sl_list
theorem op_inK (hK : X.K = K := by rfl) : OpR X (compareOp .In) (rIn K false) := by subst hK; exact op_in_seq
theorem op_notInK (hK : X.K = K := by rfl) : OpR X (compareOp .NotIn) (rIn K true) := by subst hK; exact op_notIn_seq
theorem op_eqDK (hu : X.A.units + 64 < cLine) (hK : X.K = K := by rfl) : OpR X (compareOp .Eq) (rEqD K) := by subst hK; exact op_eqD hu
theorem op_neDK (hu : X.A.units + 64 < cLine) (hK : X.K = K := by rfl) : OpR X (compareOp .NotEq) (rNeD K) := by subst hK; exact op_neD hu
theorem op_inDK (hu : X.A.units + 65 < cLine) (hK : X.K = K := by rfl) : OpR X (compareOp .In) (rInD K) := by subst hK; exact op_inD hu
theorem op_notInDK (hu : X.A.units + 65 < cLine) (hK : X.K = K := by rfl) : OpR X (compareOp .NotIn) (rNotInD K) := by subst hK; exact op_notInD hu
section
variable {tg l e a : Expr} {tl ta te to : TE} {pos p tpos cpos apos : Pos} {f : Str} {t : TA} {es : List Expr}
theorem pi_listK (hl : PE X l tl) (hK : X.K = K := by rfl) : PI X tg l (iList K tl) := by subst hK; exact pi_list hl
theorem pi_tupK (hl : PE X l tl) (hK : X.K = K := by rfl) : PI X tg l (iTup K tl) := by subst hK; exact pi_tup hl
theorem pi_enumK {elts : List Expr} {kk : Nat} (hg : Gl X "enumerate") (hm : X.mg "enumerate" = none) (ha : PA X [e] t) (hs : starEach [e] X.env = [(false, eval e X.env)] := by rfl) (hK : X.K = K := by rfl) :
    PI X (.Tuple elts kk tpos) (.Call (.Name "enumerate" p) [e] [] pos) (iEnum K t) := by subst hK; exact pi_enum hg hm ha hs
theorem pi_enumTK {elts : List Expr} {kk : Nat} (hg : Gl X "enumerate") (hm : X.mg "enumerate" = none) (ha : PA X [e] t) (hs : starEach [e] X.env = [(false, eval e X.env)] := by rfl) (hK : X.K = K := by rfl) :
    PI X (.Tuple elts kk tpos) (.Call (.Name "enumerate" p) [e] [] pos) (iEnumT K t) := by subst hK; exact pi_enumT hg hm ha hs
theorem pe_fldK (he : PE X e ta) (hb : attributeBase e f X.env (eval e X.env) = eval e X.env := by rfl) (hK : X.K = K := by rfl) : PE X (.Attribute e f pos) (tFld K ta f) := by subst hK; exact pe_fld he hb
theorem ps_fldK {o value : Expr} {pos' : Pos} {tv : TE} (ha : PE X o ta) (hv : PE X value tv) (hs : swapsWith value (some (.Attribute o f pos')) pos.line X.env = pure false := by rfl) (hK : X.K = K := by rfl) :
    PS X (.Assign [.Attribute o f pos'] value pos) (sFld K ta tv f) := by subst hK; exact ps_fld ha hv hs
theorem pe_tupleK (hg : Gl X "tuple") (hm : X.mg "tuple" = none) (ha : PE X a ta) (na : starEach [a] X.env = (false, eval a X.env) :: starEach [] X.env := by rfl) (hK : X.K = K := by rfl) :
    PE X (.Call (.Name "tuple" p) [a] [] pos) (tThen ta (kTup K)) := by subst hK; exact pe_tupleOf hg hm ha na
theorem pg_tupK {k n : Nat} {t : TGs} (hc : X.calm = true) (h : PGs X es t) (hn : (assignEach es X.env).length = n := by rfl) (hst : (assignEach es X.env).findIdx? (·.1) = none := by rfl) (hK : X.K = K := by rfl) :
    PG X (.Tuple es k pos) (gTup K n t) := by subst hK; exact pg_tup hc h hn hst
theorem pg_lstK {k n : Nat} {t : TGs} (hc : X.calm = true) (h : PGs X es t) (hn : (assignEach es X.env).length = n := by rfl) (hst : (assignEach es X.env).findIdx? (·.1) = none := by rfl) (hK : X.K = K := by rfl) :
    PG X (.Tuple es k pos) (gLst K n t) := by subst hK; exact pg_lst hc h hn hst
end
end
/-! their readings -/
section
variable {σ : L2.St} {H : Hp} {Q : VK} {K : PySem.W.Frag}
theorem rd_lenB {p : Addr} {ys : List V} (ha : SqL K H p ys ∨ SqT K H p ys) (h : Q (.int ys.length) H) : rLenS K [.ref p] H Q := ⟨p, ys, rfl, ha, h⟩
theorem rd_len {p : Addr} {ys : List V} (ha : H p = some (.lst ys)) (h : Q (.int ys.length) H) : rLenS K [.ref p] H Q := ⟨p, ys, rfl, .inl (SqL.of ha), h⟩
theorem rd_lenTup {p : Addr} {ys : List V} (ha : Tup H p ys) (h : Q (.int ys.length) H) : rLenS K [.ref p] H Q := ⟨p, ys, rfl, .inr ha.sq, h⟩
theorem rd_list {p : Addr} {ys : List V} (ha : SqL K H p ys ∨ SqT K H p ys) (h : NewO H (.lst ys) Q) : rListS K [.ref p] H Q := ⟨p, ys, rfl, ha, new_of h⟩
theorem rd_sorted {p : Addr} {ns : List Int} (ha : H p = some (.lst (ns.map V.int))) (hl : ns.length < 64) (h : ∀ ns' : List Int, ns'.Perm ns → ns'.Pairwise (· ≤ ·) → NewO H (.lst (ns'.map V.int)) Q) : rSorted K [.ref p] H Q :=
  ⟨p, ns, rfl, SqL.of ha, hl, fun ns' q hp hs hq => new_of (h ns' hp hs) q hq⟩
theorem rd_tupL {p : Addr} {xs : List V} (ha : H p = some (.lst xs)) (h : NewO H (.tup xs) Q) : kTup K (.ref p) H Q := .inl ⟨p, xs, rfl, SqL.of ha, new_of h⟩
theorem rd_tupS {p : Addr} {xs : List V} (ha : Tup H p xs) (h : Q (.ref p) H) : kTup K (.ref p) H Q := .inr ⟨p, xs, rfl, ha.sq, h⟩
theorem rd_max {p : Addr} {ns : List Int} (ha : H p = some (.lst (ns.map V.int))) (hn : 0 < ns.length) (h : ∀ m, m ∈ ns → (∀ y ∈ ns, y ≤ m) → Q (.int m) H) : rMax K [.ref p] H Q := ⟨p, ns, rfl, SqL.of ha, hn, h⟩
theorem rd_repr {x : V} {d : PyData} (hd : Dp K H x d) (h1 : d.showable = true) (h2 : d.hasDict = false) (h3 : d.depth ≤ 64) (h4 : d.shown.length ≤ sizeLine) (h : Q (.str d.shown) H) : rRepr K [x] H Q := ⟨x, d, rfl, hd, h1, h2, h3, h4, h⟩
theorem rd_eqS {a b : Str} (h : Q (.bl (decide (a = b))) H) : rEq (.str a) (.str b) H Q := by
  refine ⟨rfl, ?_⟩
  have e : decide (V.str a = V.str b) = decide (a = b) := by by_cases z : a = b <;> simp [z]
  rw [e]; exact h
theorem rd_neS {a b : Str} (h : Q (.bl (!decide (a = b))) H) : rNe (.str a) (.str b) H Q := by
  refine ⟨rfl, ?_⟩
  have e : decide (V.str a = V.str b) = decide (a = b) := by by_cases z : a = b <;> simp [z]
  rw [e]; exact h
theorem rd_ty {p : Addr} {xs : List V} {R : Prop} (ha : H p = some (.lst xs)) (h : R) : tyV K "list" (.ref p) H ∧ R := ⟨.inl ⟨rfl, _, SqL.of ha⟩, h⟩
end
section
variable {X : Cx} {K : PySem.W.Frag} {o e : Expr} {es : List Expr} {to : TE} {t : TA} {apos cpos : Pos} {name : Str} {id : String} {r : V → List V → Hp → VK → Prop}
theorem pe_bmK (slot : Slot "list" name id) (hty : typeOf (.builtin id) = pure (.type "method_descriptor")) (hm : MtR X id r) (ho : PE X o to) (ha : PA X (e :: es) t)
    (hbase : attributeBase o name X.env (eval o X.env) = eval o X.env := by rfl)
    (hfew : ((backTo cpos (starEach (e :: es) X.env)).all (fun x => !x.1) && (backToKw cpos (keywordEach [] X.env)).all (fun x => x.1.isSome)
      && decide ((e :: es).length + ([] : List Keyword).length + (if ([] : List Keyword).isEmpty then 0 else 1) < 30)) = true := by rfl)
    (hline : (apos.endLine == cpos.line) = true := by rfl) (hs : starEach (e :: es) X.env = (false, eval e X.env) :: starEach es X.env := by rfl) (hplain : (backTo cpos (starEach es X.env)).any (·.1) = false := by rfl) (hK : X.K = K := by rfl) :
    PE X (.Call (.Attribute o name apos) (e :: es) [] cpos) (tBM K "list" r to t) := by subst hK; exact pe_bm PySem.F.plainAttrs_list slot hty hm ho ha hbase hfew hline hs hplain
theorem pe_bm0K (slot : Slot "list" name id) (hty : typeOf (.builtin id) = pure (.type "method_descriptor")) (hm : MtR X id r) (ho : PE X o to)
    (hbase : attributeBase o name X.env (eval o X.env) = eval o X.env := by rfl) (hline : (apos.endLine == cpos.line) = true := by rfl) (hK : X.K = K := by rfl) : PE X (.Call (.Attribute o name apos) [] [] cpos) (tBM0 K "list" r to) := by
  subst hK; exact pe_bm0 PySem.F.plainAttrs_list slot hty hm ho hbase hline
end
/-- what isinstance asks of an own class -/
structure IsCls (K : PySem.W.Frag) (C : Addr) : Prop where
  cl : Cls K C
  ha : PySem.W.findIn K (.ref C) "__class__" = some (some (.builtin "object.__class__"))
  hn : PySem.W.specialIn K (.builtin "object.__class__") "__get__" = some (some (.builtin "getset_descriptor.__get__"))
  ht : PySem.W.takesIn K (.builtin "object.__class__") = some true
  hm : PySem.W.mroIn K C (.type "object") = some true
  kit : PySem.W.kitOne K (.ref C) (.ref C) = some true
theorem IsCls.ty {K : PySem.W.Frag} {C : Addr} (h : IsCls K C) {H : Hp} {a dx : Addr} {fs : List (Str × V)} (e : H a = some (.ins C dx fs)) : TyX K H (.ref a) (.ref C) :=
  .base (.ins e h.cl h.ha h.hn h.ht h.hm)
/-! data: ints and pairs of ints -/
theorem dA_ints (K : PySem.W.Frag) (H : Hp) : ∀ ns : List Int, DpAll K H (ns.map V.int) (ns.map PyData.int)
  | [] => .nil
  | n :: ns => .cons (.int n) (dA_ints K H ns)
theorem dA_lay : ∀ ns : List Int, PyData.canLayAll0 (ns.map PyData.int) = true
  | [] => rfl
  | n :: ns => by
    show (PyData.canLay0 (.int n) && PyData.canLayAll0 (ns.map PyData.int)) = true
    rw [dA_lay ns]; rfl
theorem dA_dep : ∀ ns : List Int, PyData.depthAll (ns.map PyData.int) ≤ 1
  | [] => by decide
  | n :: ns => by
    have h := dA_dep ns
    show max (PyData.depth (.int n)) (PyData.depthAll (ns.map PyData.int)) ≤ 1
    have h1 : PyData.depth (.int n) = 0 := rfl
    rw [h1]; omega
theorem dA_sh (ns : List Int) : SeqAt.shaped (.tuple (ns.map PyData.int)) = true := by
  have h := dA_dep ns
  have h1 : PyData.depth (.tuple (ns.map PyData.int)) = PyData.depthAll (ns.map PyData.int) + 1 := rfl
  unfold SeqAt.shaped
  have h2 : PyData.canLay0 (.tuple (ns.map PyData.int)) = PyData.canLayAll0 (ns.map PyData.int) := rfl
  rw [h2, dA_lay, h1, Bool.true_and]
  exact decide_eq_true (by omega)
theorem dA_eqv : ∀ ns ms : List Int, PyData.eqvAll (ns.map PyData.int) (ms.map PyData.int) = decide (ns = ms)
  | [], [] => rfl
  | [], m :: ms => by simp [PyData.eqvAll]
  | n :: ns, [] => by simp [PyData.eqvAll]
  | n :: ns, m :: ms => by
    show ((n == m) && PyData.eqvAll (ns.map PyData.int) (ms.map PyData.int)) = _
    rw [dA_eqv ns ms]
    by_cases h1 : n = m
    · by_cases h2 : ns = ms <;> simp [h1, h2]
    · simp [h1]
def dP (e : Int × Int) : PyData := .tuple [.int e.1, .int e.2]
theorem dP_lay : ∀ L : List (Int × Int), PyData.canLayAll0 (L.map dP) = true
  | [] => rfl
  | n :: ns => by
    show (PyData.canLay0 (dP n) && PyData.canLayAll0 (ns.map dP)) = true
    rw [dP_lay ns]; rfl
theorem dP_dep : ∀ L : List (Int × Int), PyData.depthAll (L.map dP) ≤ 2
  | [] => by decide
  | n :: ns => by
    have h := dP_dep ns
    show max (PyData.depth (dP n)) (PyData.depthAll (ns.map dP)) ≤ 2
    have h1 : PyData.depth (dP n) = 1 := rfl
    rw [h1]; omega
theorem dP_shT (L : List (Int × Int)) : SeqAt.shaped (.tuple (L.map dP)) = true := by
  have h := dP_dep L
  have h1 : PyData.depth (.tuple (L.map dP)) = PyData.depthAll (L.map dP) + 1 := rfl
  unfold SeqAt.shaped
  have h2 : PyData.canLay0 (.tuple (L.map dP)) = PyData.canLayAll0 (L.map dP) := rfl
  rw [h2, dP_lay, h1, Bool.true_and]
  exact decide_eq_true (by omega)
theorem dP_shL (L : List (Int × Int)) : SeqAt.shaped (.list (L.map dP)) = true := by
  have h := dP_dep L
  have h1 : PyData.depth (.list (L.map dP)) = PyData.depthAll (L.map dP) + 1 := rfl
  unfold SeqAt.shaped
  have h2 : PyData.canLay0 (.list (L.map dP)) = PyData.canLayAll0 (L.map dP) := rfl
  rw [h2, dP_lay, h1, Bool.true_and]
  exact decide_eq_true (by omega)
theorem dP_sh1 (e : Int × Int) : SeqAt.shaped (dP e) = true := rfl
theorem dP_eqv1 (e f : Int × Int) : PyData.eqv (dP e) (dP f) = decide (e = f) := by
  obtain ⟨a, b⟩ := e
  obtain ⟨c, d⟩ := f
  show ((a == c) && ((b == d) && true)) = _
  by_cases h1 : a = c
  · by_cases h2 : b = d <;> simp [h1, h2]
  · simp [h1]
theorem dP_eqv : ∀ L M : List (Int × Int), PyData.eqvAll (L.map dP) (M.map dP) = decide (L = M)
  | [], [] => rfl
  | [], m :: ms => by simp [PyData.eqvAll]
  | n :: ns, [] => by simp [PyData.eqvAll]
  | n :: ns, m :: ms => by
    show (PyData.eqv (dP n) (dP m) && PyData.eqvAll (ns.map dP) (ms.map dP)) = _
    rw [dP_eqv ns ms, dP_eqv1]
    by_cases h1 : n = m
    · by_cases h2 : ns = ms <;> simp [h1, h2]
    · simp [h1]
theorem dP_any (e : Int × Int) (L : List (Int × Int)) : ((L.map dP).any fun z => PyData.eqv z (dP e)) = decide (e ∈ L) := by
  induction L with
  | nil => rfl
  | cons x L ih =>
    rw [List.map_cons, List.any_cons, ih, dP_eqv1]
    by_cases h : x = e
    · simp [h]
    · have h' : ¬ e = x := fun z => h z.symm
      simp [h, h']
theorem Room.u65 {k : Nat} {A : Around} (r : Room k A) : A.units + 65 < cLine := by have := r.un; omega
theorem Room.u66 {k : Nat} {A : Around} (r : Room k A) : A.units + 66 < cLine := by have := r.un; omega
end KX

namespace KX
open PySem PySem.Spec PyProof.Rows L2
/-! comprehensions whose values are told ahead -/
theorem same_put {H H' : Hp} {D : Addr} {o : HO} (s : Same H H') (n : H D = none) : Same H (L2.upd H' D o) := fun c u h => by
  rw [upd_ne (fun z => by rw [z, n] at h; cases h)]
  exact s c u h
section
variable {K : PySem.W.Frag} {g : TG} {te : TE} {vs : List Nat} {σ : L2.St} {H1 : Hp} {D : Addr} {Qd : Hp → Prop}
/-- at the end of a turn: the value told, the heap extended -/
theorem lcv_put {zs : List V} (hz : zs.length < 1000000) {i : Nat} {z : V} {H' H4 : Hp} (hD : H1 D = none) (hz' : zs[i]? = some z) (S : Same H1 H') (hH : H' D = some (.lst (zs.take i))) (S4 : Same H' H4) :
    ∃ acc, H4 D = some (.lst acc) ∧ acc.length < sizeLine ∧ (Same H1 (upd H4 D (.lst (acc ++ [z]))) ∧ upd H4 D (.lst (acc ++ [z])) D = some (.lst (zs.take (i + 1)))) := by
  refine ⟨_, S4 _ _ hH, ?_, same_put (fun c u h => S4 _ _ (S _ _ h)) hD, ?_⟩
  · rw [List.length_take]
    exact Nat.lt_of_le_of_lt (Nat.min_le_right _ _) (Nat.lt_of_lt_of_le hz (by decide))
  · rw [upd_same, List.take_succ, hz']; rfl
theorem yes_eq {R : L2.St → VK} {A : L2.St → Prop} {N : Hp → Prop} : (fun (σ2 : L2.St) (H2 : Hp) => A σ2 ∧ tYes σ2 H2 fun b H3 => if b = true then te σ2 H3 (R σ2) else N H3) = fun σ2 H2 => A σ2 ∧ te σ2 H2 (R σ2) := by
  funext σ2 H2
  show (A σ2 ∧ if true = true then te σ2 H2 (R σ2) else N H2) = _
  rw [if_pos rfl]
/-- over any walk that leaves the heap as it is -/
theorem lcv_wk {J : It} {n : Nat} {G : Hp → Prop} {f : Nat → V} (zs : List V) (w : Walk J n G fun i H v H' => H' = H ∧ v = f i) (lz : zs.length = n) (hz : zs.length < 1000000) (hD : H1 D = none) (keep : ∀ H', Same H1 H' → G H')
    (hs : ∀ (i : Nat) (z : V) (H' : Hp), i < n → zs[i]? = some z → Same H1 H' → ∀ R : VK, (∀ H4, Same H' H4 → R z H4) → g (f i) (wipe σ vs) H' fun σ2 H2 => wipe σ2 vs = wipe σ vs ∧ te σ2 H2 R)
    (hd : ∀ H', Same H1 H' → H' D = some (.lst zs) → Qd H') :
    ∃ W : Nat → Nat → Hp → Prop, (∃ m, W 0 m (upd H1 D (.lst []))) ∧ ∀ i m H, W i m H →
      (J.stop i H ∧ Qd H) ∨ (J.go i H ∧ ∃ Nx : Hp → Prop, (∀ H', Nx H' → ∃ m', m' < m ∧ W (i + 1) m' H') ∧ ∀ x H', J.yld i H x H' → g x (wipe σ vs) H' fun σ2 H2 => wipe σ2 vs = wipe σ vs ∧ tYes σ2 H2 fun b H3 =>
        if b = true then te σ2 H3 fun y H4 => ∃ acc, H4 D = some (.lst acc) ∧ acc.length < sizeLine ∧ Nx (upd H4 D (.lst (acc ++ [y]))) else Nx H3) := by
  refine lc_it w (fun i H' => Same H1 H' ∧ H' D = some (.lst (zs.take i))) ⟨Same.fresh hD, upd_same⟩ (fun i H' _ p => keep H' p.1) (fun i x H' H'' hi p y => ?_) (fun H' p => ?_)
  · obtain ⟨S, hH⟩ := p
    obtain ⟨rfl, rfl⟩ := y
    have hz' : zs[i]? = some zs[i] := List.getElem?_eq_getElem (by omega)
    rw [yes_eq (R := fun _ y H4 => ∃ acc, H4 D = some (.lst acc) ∧ acc.length < sizeLine ∧ (Same H1 (upd H4 D (.lst (acc ++ [y]))) ∧ upd H4 D (.lst (acc ++ [y])) D = some (.lst (zs.take (i + 1)))))]
    exact hs i _ _ hi hz' S _ fun H4 S4 => lcv_put hz hD hz' S hH S4
  · obtain ⟨S, hH⟩ := p
    rw [← lz, List.take_length] at hH
    exact hd H' S hH
end
section
variable {K : PySem.W.Frag} {g : TG} {te : TE} {vs : List Nat} {σ : L2.St} {H1 : Hp} {D : Addr} {Qd : Hp → Prop}
theorem lcv_list {a : Addr} {xs : List V} (zs : List V) (ha : H1 a = some (.lst xs)) (lz : zs.length = xs.length) (hz : zs.length < 1000000) (hD : H1 D = none)
    (hs : ∀ (i : Nat) (x z : V) (H' : Hp), xs[i]? = some x → zs[i]? = some z → Same H1 H' → ∀ R : VK, (∀ H4, Same H' H4 → R z H4) → g x (wipe σ vs) H' fun σ2 H2 => wipe σ2 vs = wipe σ vs ∧ te σ2 H2 R)
    (hd : ∀ H', Same H1 H' → H' D = some (.lst zs) → Qd H') :
    ∃ W : Nat → Nat → Hp → Prop, (∃ m, W 0 m (upd H1 D (.lst []))) ∧ ∀ i m H, W i m H →
      ((Itl K a).stop i H ∧ Qd H) ∨ ((Itl K a).go i H ∧ ∃ Nx : Hp → Prop, (∀ H', Nx H' → ∃ m', m' < m ∧ W (i + 1) m' H') ∧ ∀ x H', (Itl K a).yld i H x H' → g x (wipe σ vs) H' fun σ2 H2 => wipe σ2 vs = wipe σ vs ∧ tYes σ2 H2 fun b H3 =>
        if b = true then te σ2 H3 fun y H4 => ∃ acc, H4 D = some (.lst acc) ∧ acc.length < sizeLine ∧ Nx (upd H4 D (.lst (acc ++ [y]))) else Nx H3) := by
  refine lcv_wk (n := xs.length) (G := fun H => SqL K H a xs) (f := fun i => xs.getD i .non) zs ((walk_list).mono (fun _ h => h) fun i H x H' hi _ y => ⟨y.1, ?_⟩) lz hz hD (fun H' S => SqL.of (S _ _ ha)) (fun i z H' hi hz' S => ?_) hd
  · rw [List.getD_eq_getElem?_getD, y.2]; rfl
  · have e : xs[i]? = some (xs.getD i .non) := by rw [List.getD_eq_getElem?_getD, List.getElem?_eq_getElem hi]; rfl
    exact hs i _ z H' e hz' S
theorem lcv_tup {a : Addr} {xs : List V} (zs : List V) (ha : Tup H1 a xs) (lz : zs.length = xs.length) (hz : zs.length < 1000000) (hD : H1 D = none)
    (hs : ∀ (i : Nat) (x z : V) (H' : Hp), xs[i]? = some x → zs[i]? = some z → Same H1 H' → ∀ R : VK, (∀ H4, Same H' H4 → R z H4) → g x (wipe σ vs) H' fun σ2 H2 => wipe σ2 vs = wipe σ vs ∧ te σ2 H2 R)
    (hd : ∀ H', Same H1 H' → H' D = some (.lst zs) → Qd H') :
    ∃ W : Nat → Nat → Hp → Prop, (∃ m, W 0 m (upd H1 D (.lst []))) ∧ ∀ i m H, W i m H →
      ((Itt K a).stop i H ∧ Qd H) ∨ ((Itt K a).go i H ∧ ∃ Nx : Hp → Prop, (∀ H', Nx H' → ∃ m', m' < m ∧ W (i + 1) m' H') ∧ ∀ x H', (Itt K a).yld i H x H' → g x (wipe σ vs) H' fun σ2 H2 => wipe σ2 vs = wipe σ vs ∧ tYes σ2 H2 fun b H3 =>
        if b = true then te σ2 H3 fun y H4 => ∃ acc, H4 D = some (.lst acc) ∧ acc.length < sizeLine ∧ Nx (upd H4 D (.lst (acc ++ [y]))) else Nx H3) := by
  refine lcv_wk (n := xs.length) (G := fun H => SqT K H a xs) (f := fun i => xs.getD i .non) zs ((walk_tup).mono (fun _ h => h) fun i H x H' hi _ y => ⟨y.1, ?_⟩) lz hz hD (fun H' S => (ha.same S).sq) (fun i z H' hi hz' S => ?_) hd
  · rw [List.getD_eq_getElem?_getD, y.2]; rfl
  · have e : xs[i]? = some (xs.getD i .non) := by rw [List.getD_eq_getElem?_getD, List.getElem?_eq_getElem hi]; rfl
    exact hs i _ z H' e hz' S
theorem walk_rng {lo : Int} {n : Nat} : Walk (Itr lo n) n (fun _ => True) (fun i H v H' => H' = H ∧ v = .int (lo + i)) :=
  ⟨fun i _ hi _ => hi, fun _ _ => Nat.le_refl _, fun _ _ _ _ _ _ y => ⟨y.1, y.2⟩⟩
theorem lcv_rng {lo : Int} {n : Nat} (zs : List V) (lz : zs.length = n) (hz : zs.length < 1000000) (hD : H1 D = none)
    (hs : ∀ (i : Nat) (z : V) (H' : Hp), i < n → zs[i]? = some z → Same H1 H' → ∀ R : VK, (∀ H4, Same H' H4 → R z H4) → g (.int (lo + i)) (wipe σ vs) H' fun σ2 H2 => wipe σ2 vs = wipe σ vs ∧ te σ2 H2 R)
    (hd : ∀ H', Same H1 H' → H' D = some (.lst zs) → Qd H') :
    ∃ W : Nat → Nat → Hp → Prop, (∃ m, W 0 m (upd H1 D (.lst []))) ∧ ∀ i m H, W i m H →
      ((Itr lo n).stop i H ∧ Qd H) ∨ ((Itr lo n).go i H ∧ ∃ Nx : Hp → Prop, (∀ H', Nx H' → ∃ m', m' < m ∧ W (i + 1) m' H') ∧ ∀ x H', (Itr lo n).yld i H x H' → g x (wipe σ vs) H' fun σ2 H2 => wipe σ2 vs = wipe σ vs ∧ tYes σ2 H2 fun b H3 =>
        if b = true then te σ2 H3 fun y H4 => ∃ acc, H4 D = some (.lst acc) ∧ acc.length < sizeLine ∧ Nx (upd H4 D (.lst (acc ++ [y]))) else Nx H3) :=
  lcv_wk (n := n) (G := fun _ => True) (f := fun i => .int (lo + i)) zs walk_rng lz hz hD (fun _ _ => trivial) hs hd
end
/-! with a filter: what stays is told by f over a list beside the walk -/
section
variable {K : PySem.W.Frag} {g : TG} {tt : TT} {te : TE} {vs : List Nat} {σ : L2.St} {H1 : Hp} {D : Addr} {Qd : Hp → Prop}
theorem lcf_wk {α : Type} {J : It} {n : Nat} {G : Hp → Prop} {v : Nat → V} (es : List α) (f : α → Option V) (w : Walk J n G fun i H x H' => H' = H ∧ x = v i) (le : es.length = n) (hz : n < 1000000) (hD : H1 D = none) (keep : ∀ H', Same H1 H' → G H')
    (hs : ∀ (i : Nat) (e : α) (H' : Hp), i < n → es[i]? = some e → Same H1 H' → ∀ (R : VK) (N : Hp → Prop), (∀ z H4, f e = some z → Same H' H4 → R z H4) → (∀ H4, f e = none → Same H' H4 → N H4) →
      g (v i) (wipe σ vs) H' fun σ2 H2 => wipe σ2 vs = wipe σ vs ∧ tt σ2 H2 fun b H3 => if b = true then te σ2 H3 R else N H3)
    (hd : ∀ H', Same H1 H' → H' D = some (.lst (es.filterMap f)) → Qd H') :
    ∃ W : Nat → Nat → Hp → Prop, (∃ m, W 0 m (upd H1 D (.lst []))) ∧ ∀ i m H, W i m H →
      (J.stop i H ∧ Qd H) ∨ (J.go i H ∧ ∃ Nx : Hp → Prop, (∀ H', Nx H' → ∃ m', m' < m ∧ W (i + 1) m' H') ∧ ∀ x H', J.yld i H x H' → g x (wipe σ vs) H' fun σ2 H2 => wipe σ2 vs = wipe σ vs ∧ tt σ2 H2 fun b H3 =>
        if b = true then te σ2 H3 fun y H4 => ∃ acc, H4 D = some (.lst acc) ∧ acc.length < sizeLine ∧ Nx (upd H4 D (.lst (acc ++ [y]))) else Nx H3) := by
  refine lc_it w (fun i H' => Same H1 H' ∧ H' D = some (.lst ((es.take i).filterMap f))) ⟨Same.fresh hD, upd_same⟩ (fun i H' _ p => keep H' p.1) (fun i x H' H'' hi p y => ?_) (fun H' p => ?_)
  · obtain ⟨S, hH⟩ := p
    obtain ⟨rfl, rfl⟩ := y
    have he : es[i]? = some es[i] := List.getElem?_eq_getElem (by omega)
    have tk : (es.take (i + 1)).filterMap f = (es.take i).filterMap f ++ (f es[i]).toList := by
      rw [List.take_succ, he, List.filterMap_append]
      congr 1
    refine hs i _ _ hi he S _ _ (fun z H4 hf S4 => ?_) (fun H4 hf S4 => ?_)
    · refine ⟨_, S4 _ _ hH, ?_, same_put (fun c u h => S4 _ _ (S _ _ h)) hD, ?_⟩
      · have h1 := List.length_filterMap_le f (es.take i)
        have h2 : (es.take i).length ≤ es.length := by rw [List.length_take]; omega
        exact Nat.lt_of_lt_of_le (by omega : ((es.take i).filterMap f).length < 1000000) (by decide)
      · rw [upd_same, tk, hf]; rfl
    · refine ⟨fun c u h => S4 _ _ (S _ _ h), ?_⟩
      rw [tk, hf]
      simpa using S4 _ _ hH
  · obtain ⟨S, hH⟩ := p
    rw [← le, List.take_length] at hH
    exact hd H' S hH
theorem lcf_list {α : Type} {a : Addr} {xs : List V} (es : List α) (f : α → Option V) (ha : H1 a = some (.lst xs)) (le : es.length = xs.length) (hz : xs.length < 1000000) (hD : H1 D = none)
    (hs : ∀ (i : Nat) (x : V) (e : α) (H' : Hp), xs[i]? = some x → es[i]? = some e → Same H1 H' → ∀ (R : VK) (N : Hp → Prop), (∀ z H4, f e = some z → Same H' H4 → R z H4) → (∀ H4, f e = none → Same H' H4 → N H4) →
      g x (wipe σ vs) H' fun σ2 H2 => wipe σ2 vs = wipe σ vs ∧ tt σ2 H2 fun b H3 => if b = true then te σ2 H3 R else N H3)
    (hd : ∀ H', Same H1 H' → H' D = some (.lst (es.filterMap f)) → Qd H') :
    ∃ W : Nat → Nat → Hp → Prop, (∃ m, W 0 m (upd H1 D (.lst []))) ∧ ∀ i m H, W i m H →
      ((Itl K a).stop i H ∧ Qd H) ∨ ((Itl K a).go i H ∧ ∃ Nx : Hp → Prop, (∀ H', Nx H' → ∃ m', m' < m ∧ W (i + 1) m' H') ∧ ∀ x H', (Itl K a).yld i H x H' → g x (wipe σ vs) H' fun σ2 H2 => wipe σ2 vs = wipe σ vs ∧ tt σ2 H2 fun b H3 =>
        if b = true then te σ2 H3 fun y H4 => ∃ acc, H4 D = some (.lst acc) ∧ acc.length < sizeLine ∧ Nx (upd H4 D (.lst (acc ++ [y]))) else Nx H3) := by
  refine lcf_wk (n := xs.length) (G := fun H => SqL K H a xs) (v := fun i => xs.getD i .non) es f ((walk_list).mono (fun _ h => h) fun i H x H' hi _ y => ⟨y.1, ?_⟩) le hz hD (fun H' S => SqL.of (S _ _ ha)) (fun i e H' hi he S => ?_) hd
  · rw [List.getD_eq_getElem?_getD, y.2]; rfl
  · have e' : xs[i]? = some (xs.getD i .non) := by rw [List.getD_eq_getElem?_getD, List.getElem?_eq_getElem hi]; rfl
    exact hs i _ e H' e' he S
theorem lcf_tup {α : Type} {a : Addr} {xs : List V} (es : List α) (f : α → Option V) (ha : Tup H1 a xs) (le : es.length = xs.length) (hz : xs.length < 1000000) (hD : H1 D = none)
    (hs : ∀ (i : Nat) (x : V) (e : α) (H' : Hp), xs[i]? = some x → es[i]? = some e → Same H1 H' → ∀ (R : VK) (N : Hp → Prop), (∀ z H4, f e = some z → Same H' H4 → R z H4) → (∀ H4, f e = none → Same H' H4 → N H4) →
      g x (wipe σ vs) H' fun σ2 H2 => wipe σ2 vs = wipe σ vs ∧ tt σ2 H2 fun b H3 => if b = true then te σ2 H3 R else N H3)
    (hd : ∀ H', Same H1 H' → H' D = some (.lst (es.filterMap f)) → Qd H') :
    ∃ W : Nat → Nat → Hp → Prop, (∃ m, W 0 m (upd H1 D (.lst []))) ∧ ∀ i m H, W i m H →
      ((Itt K a).stop i H ∧ Qd H) ∨ ((Itt K a).go i H ∧ ∃ Nx : Hp → Prop, (∀ H', Nx H' → ∃ m', m' < m ∧ W (i + 1) m' H') ∧ ∀ x H', (Itt K a).yld i H x H' → g x (wipe σ vs) H' fun σ2 H2 => wipe σ2 vs = wipe σ vs ∧ tt σ2 H2 fun b H3 =>
        if b = true then te σ2 H3 fun y H4 => ∃ acc, H4 D = some (.lst acc) ∧ acc.length < sizeLine ∧ Nx (upd H4 D (.lst (acc ++ [y]))) else Nx H3) := by
  refine lcf_wk (n := xs.length) (G := fun H => SqT K H a xs) (v := fun i => xs.getD i .non) es f ((walk_tup).mono (fun _ h => h) fun i H x H' hi _ y => ⟨y.1, ?_⟩) le hz hD (fun H' S => (ha.same S).sq) (fun i e H' hi he S => ?_) hd
  · rw [List.getD_eq_getElem?_getD, y.2]; rfl
  · have e' : xs[i]? = some (xs.getD i .non) := by rw [List.getD_eq_getElem?_getD, List.getElem?_eq_getElem hi]; rfl
    exact hs i _ e H' e' he S
end
/-! enumerate in a for -/
section
variable {K : PySem.W.Frag} {g : TG} {tb : TS} {D : Ends} {σ : L2.St} {H : Hp} {a : Addr} {xs : List V}
theorem for_enumL (Pv : Nat → L2.St → Hp → Prop) (h0 : Pv 0 σ H) (hl : ∀ i σ H', Pv i σ H' → SqL K H' a xs)
    (hs : ∀ i y σ H' T H2, xs[i]? = some y → Pv i σ H' → H' T = none → Same H' H2 → H2 T = some (.tup [.int (i : Nat), y]) → g (.ref T) σ H2 fun σ3 H3 => tb { D with nx := Pv (i + 1), ct := Pv (i + 1), bk := D.nx } σ3 H3)
    (hd : ∀ σ H', Pv xs.length σ H' → D.nx σ H') :
    ∃ W : Nat → Nat → L2.St → Hp → Prop, (∃ m, W 0 m σ H) ∧ ∀ i m σ H, W i m σ H →
      ((Ite K a).stop i H ∧ D.nx σ H) ∨ ((Ite K a).go i H ∧ ∃ N : L2.St → Hp → Prop, (∀ σ' H', N σ' H' → ∃ m', m' < m ∧ W (i + 1) m' σ' H') ∧ ∀ x H', (Ite K a).yld i H x H' → g x σ H' fun σ2 H2 => tb { D with nx := N, ct := N, bk := D.nx } σ2 H2) :=
  for_it (walk_enum (K := K) (xs := xs)) Pv h0 (fun i σ H' _ p => hl i σ H' p) (fun i v σ H1 H2 _ hp y => by
    obtain ⟨T, b, c, rfl, hT, rfl, hb, hc⟩ := y
    have hb : some (V.int (i : Nat)) = some b := hb
    cases hb
    exact hs i c σ H1 T _ hc hp hT (Same.fresh hT) upd_same) hd
theorem for_enumTu (Pv : Nat → L2.St → Hp → Prop) (h0 : Pv 0 σ H) (hl : ∀ i σ H', Pv i σ H' → SqT K H' a xs)
    (hs : ∀ i y σ H' T H2, xs[i]? = some y → Pv i σ H' → H' T = none → Same H' H2 → H2 T = some (.tup [.int (i : Nat), y]) → g (.ref T) σ H2 fun σ3 H3 => tb { D with nx := Pv (i + 1), ct := Pv (i + 1), bk := D.nx } σ3 H3)
    (hd : ∀ σ H', Pv xs.length σ H' → D.nx σ H') :
    ∃ W : Nat → Nat → L2.St → Hp → Prop, (∃ m, W 0 m σ H) ∧ ∀ i m σ H, W i m σ H →
      ((Itn K a).stop i H ∧ D.nx σ H) ∨ ((Itn K a).go i H ∧ ∃ N : L2.St → Hp → Prop, (∀ σ' H', N σ' H' → ∃ m', m' < m ∧ W (i + 1) m' σ' H') ∧ ∀ x H', (Itn K a).yld i H x H' → g x σ H' fun σ2 H2 => tb { D with nx := N, ct := N, bk := D.nx } σ2 H2) :=
  for_it (walk_enumT (K := K) (xs := xs)) Pv h0 (fun i σ H' _ p => hl i σ H' p) (fun i v σ H1 H2 _ hp y => by
    obtain ⟨T, b, c, rfl, hT, rfl, hb, hc⟩ := y
    have hb : some (V.int (i : Nat)) = some b := hb
    cases hb
    exact hs i c σ H1 T _ hc hp hT (Same.fresh hT) upd_same) hd
end
end KX

namespace KX
open PySem PySem.Spec PyProof.Rows L2
/-! t[::-1] of a tuple -/
section
variable {prog : Program} {w : World} {A : Around} {E : Value → Shared → Prop} {s : Shared}
theorem places_back (n : Nat) : Builtin.Slice.slicePlaces ((n : Int) - 1) (-1) (-1) = n := by
  unfold Builtin.Slice.slicePlaces
  have h1 : ¬ ((-1 : Int) > 0) := by omega
  have e : -(-1 : Int) = 1 := by decide
  simp only [h1, if_false, e, Int.ediv_one]
  split <;> omega
theorem applied_back {sl : Addr} {vl vu vs : Value} {n : Nat} {Q : Int × Int × Nat → Shared → Prop} (hs : s.heap.IsSliceOf sl vl vu vs) (pl : IsPart vl none) (pu : IsPart vu none) (ps : IsPart vs (some (-1)))
    (h : Q (((n : Int) - 1), -1, n) s) : wpAny (model prog w) A (Builtin.Slice.sliceApplied (.ref sl) (pure (n : Int))) Q E s := by
  obtain ⟨os, hos, hcs, hds⟩ := id hs
  unfold Builtin.Slice.sliceApplied Builtin.Slice.sliceFields
  refine wpAny_bind (wpAny_bind (wpAny_field hos hds (x := vl) rfl (wpAny_bind (wpAny_field hos hds (x := vu) rfl (wpAny_bind (wpAny_field hos hds (x := vs) rfl (wpAny_pure ?_)))))))
  refine wpAny_bind (HT.slicePart_ ps ?_)
  show wpAny _ _ (if ((-1 : Int) == 0) = true then _ else _) _ _ s
  rw [if_neg (by decide)]
  refine wpAny_bind (HT.slicePart_ pl (wpAny_bind (HT.slicePart_ pu (wpAny_bind (wpAny_pure ?_)))))
  have e : Builtin.Slice.sliceAdjust none none (-1) (n : Int) = ((n : Int) - 1, -1) := by
    unfold Builtin.Slice.sliceAdjust
    simp
  show wpAny _ _ (match Builtin.Slice.sliceAdjust none none (-1) (n : Int) with | (lo, hi) => pure (lo, (-1 : Int), Builtin.Slice.slicePlaces lo hi (-1))) _ _ s
  rw [e]
  show wpAny _ _ (pure ((n : Int) - 1, (-1 : Int), Builtin.Slice.slicePlaces ((n : Int) - 1) (-1) (-1))) _ _ s
  rw [places_back]
  exact wpAny_pure h
theorem pick_back (xs : Array Value) : ((List.range xs.size).filterMap fun (m : Nat) => xs[(((xs.size : Nat) : Int) - 1 + (m : Int) * (-1)).toNat]?).toArray = xs.toList.reverse.toArray := by
  congr 1
  have e : ∀ m ∈ List.range xs.size, xs[(((xs.size : Nat) : Int) - 1 + (m : Int) * (-1)).toNat]? = xs[xs.size - 1 - m]? := fun m hm => by
    have := List.mem_range.mp hm
    have e : (((xs.size : Nat) : Int) - 1 + (m : Int) * (-1)).toNat = xs.size - 1 - m := by omega
    rw [e]
  have e2 : ((List.range xs.size).filterMap fun (m : Nat) => xs[(((xs.size : Nat) : Int) - 1 + (m : Int) * (-1)).toNat]?) = (List.range xs.size).filterMap fun m => xs[xs.size - 1 - m]? := by
    have gen : ∀ l : List Nat, (∀ m ∈ l, m ∈ List.range xs.size) → (l.filterMap fun (m : Nat) => xs[(((xs.size : Nat) : Int) - 1 + (m : Int) * (-1)).toNat]?) = l.filterMap fun m => xs[xs.size - 1 - m]? := by
      intro l
      induction l with
      | nil => intro _; rfl
      | cons a l ih =>
        intro h
        rw [List.filterMap_cons, List.filterMap_cons, e a (h a List.mem_cons_self), ih fun m hm => h m (List.mem_cons_of_mem _ hm)]
    exact gen _ fun _ h => h
  rw [e2]
  have e3 := PySem.W.krv_range xs.size
  have e4 : ((List.range xs.size).filterMap fun m => xs[xs.size - 1 - m]?) = ((List.range xs.size).map fun k => xs.size - 1 - k).filterMap fun k => xs[k]? := by
    rw [List.filterMap_map]; rfl
  rw [e4, e3, List.filterMap_reverse]
  congr 1
  exact PySem.W.krv_all xs
theorem getItem_tuple_back {t sl : Addr} {items : Array Value} {vl vu vs : Value} {Q : Value → Shared → Prop} (ht : IsTup s.heap t items) (hs : s.heap.IsSliceOf sl vl vu vs) (pl : IsPart vl none) (pu : IsPart vu none) (ps : IsPart vs (some (-1)))
    (h : Q (.ref s.heap.objs.size) { s with heap := s.heap.push { cls := .type "tuple", data := .seq items.toList.reverse.toArray } })
    (hsz : items.size ≤ sizeLine) : wpAny (model prog w) A (getItem (.ref t) (.ref sl)) Q E s := by
  have htake : sizeOk (.seq items.toList.reverse.toArray) := by
    show items.toList.reverse.toArray.size ≤ sizeLine
    rw [List.size_toArray, List.length_reverse, Array.length_toList]
    exact hsz
  obtain ⟨os, hos, hcs, hds⟩ := id hs
  have hTs : s.TypeIs (.ref sl) "slice" := ⟨os, hos, hcs⟩
  unfold getItem
  try with_reducible refine wpAny_holding ?_
  first | refine wpAny_bind (wpAny_pure ?_) | skip
  refine wpAny_bind (wpAny_sequenceKey ht.typeIs (by decide) ?_)
  refine wpAny_bind (wpAny_callSpecial?_slot (name := Str.ofString "__getitem__") ht.typeIs PyProof.Rows.slot_tuple_getitem
    (wpAny_call_entry PyProof.Rows.slot_tuple_getitem ht.typeIs entry_tuple_getitem ?_ (args_tuple_getitem _ _)))
  show wpAny _ _ (Builtin.Tuple.tupleItemsOf (.ref t) >>= _) _ _ s
  refine wpAny_bind (tupleItemsOf_ ht ?_)
  refine wpAny_bind (wpAny_typeOf hTs ?_)
  rw [if_pos (by decide)]
  refine wpAny_bind (applied_back (n := items.size) hs pl pu ps ?_)
  have hno : ¬ ((((items.size : Nat) : Int) - 1 == 0 && (-1 : Int) == 1 && items.size == items.size) = true) := by
    intro q
    rw [Bool.and_eq_true, Bool.and_eq_true] at q
    exact absurd q.1.2 (by decide)
  show wpAny _ _ (if (((items.size : Nat) : Int) - 1 == 0 && (-1 : Int) == 1 && items.size == items.size) = true then _ else _) _ _ s
  rw [if_neg hno, pick_back]
  first
    | exact wpAny_bind (m := Builtin.Tuple.tupleExact _) (wpAny_newObj_type (wpAny_pure ⟨_, rfl, wpAny_pure h⟩) htake)
    | exact wpAny_bind (m := Builtin.Tuple.tupleExact _) (wpAny_newObj_type (wpAny_bind (wpAny_pure (wpAny_pure ⟨_, rfl, wpAny_pure h⟩))) htake)
    | exact wpAny_bind (wpAny_bind (m := Builtin.Tuple.tupleExact _) (wpAny_newObj_type (wpAny_pure (wpAny_pure ⟨_, rfl, wpAny_pure h⟩)) htake))
    | exact wpAny_bind (wpAny_bind (m := Builtin.Tuple.tupleExact _) (wpAny_newObj_type (wpAny_pure ⟨_, rfl, wpAny_pure h⟩) htake))
end
section
variable {X : Cx} {K : PySem.W.Frag}
/-- t[::-1] -/
def tRevT (K : PySem.W.Frag) (te : TE) : TE := fun σ H Q => te σ H fun x H1 => ∃ a xs, x = .ref a ∧ Tup H1 a xs ∧ ∀ H' p, Same H1 H' → H1 p = none → H' p = some (.tup xs.reverse) → Q (.ref p) H'
theorem pe_revT {e : Expr} {te : TE} {k : Nat} {p1 p2 p3 pos : Pos} (he : PE X e te) : PE X (.Subscript e (.Slice none none (some (.UnaryOp .USub (.Constant (.int 1) k p1) p2)) p3) pos) (tRevT K te) := by
  refine ⟨fun pins s σ H Q I h => ?_⟩
  refine Subscript_ (thn (he.run pins s σ H _ I h) fun v s1 ⟨x, H1, I1, r1, q1⟩ => ?_)
  obtain ⟨a, xs, ex, hx, q⟩ := q1
  subst ex
  cases r1
  have hst : PO X (some (.UnaryOp .USub (.Constant (.int 1) k p1) p2)) (tPart (tUn (rU fun i => .int (-i)) (tC (.int 1)))) := po_some (pe_un un_neg pe_int)
  refine wpAny_Slice (thn (po_none.run pins s1 σ H1 (fun o H2 => o = none ∧ H2 = H1) I1 ⟨rfl, rfl⟩) fun vl s2 ⟨l, H2, I2, pl, el, e2⟩ => ?_)
  subst el e2
  refine thn (po_none.run pins s2 σ H2 (fun o H3 => o = none ∧ H3 = H2) I2 ⟨rfl, rfl⟩) fun vu s3 ⟨u, H3, I3, pu, eu, e3⟩ => ?_
  subst eu e3
  refine thn (hst.run pins s3 σ H3 (fun o H4 => o = some (-1) ∧ H4 = H3) I3 ⟨1, rfl, -1, rfl, rfl, rfl⟩) fun vs s4 ⟨o, H4, I4, ps, eo, e4⟩ => ?_
  subst eo e4
  have I5 : Inv X pins σ H4 { s4 with heap := s4.heap.push { cls := .type "slice", data := .fields #[vl, vu, vs] } } := I4.kept (t' := s4.toks) fun b ob q => Heap.get?_push_of_some _ q
  obtain ⟨its, r, ht, hz⟩ := I5.tuple hx.sq
  have hlen := r.length
  show wpAny (model X.prog X.w) X.A (subscriptTail e (.Slice none none (some (.UnaryOp .USub (.Constant (.int 1) k p1) p2)) p3) (.ref a) (.ref s4.heap.objs.size)) (EP X pins σ Q) X.xe { s4 with heap := s4.heap.push { cls := .type "slice", data := .fields #[vl, vu, vs] } }
  refine tail_any (ops := [.ref a, .ref s4.heap.objs.size]) ht.typeIs (PyProof.Rows.slot_tuple_getitem.lookup) ?_ (by with_unfolding_all rfl)
  refine getItem_tuple_back ht (Heap.IsSliceOf.new _ vl vu vs) pl pu ps ?_ (by rw [List.size_toArray]; omega)
  refine ⟨.ref _, _, I5.laid (t' := s4.toks) (o := .tup xs.reverse) (fun b ob q => Heap.get?_push_of_some _ q) (Nat.le_refl _) ?_, rfl, q _ _ (Same.fresh (I5.hok.fresh (Nat.le_refl _))) (I5.hok.fresh (Nat.le_refl _)) upd_same⟩
  exact ⟨by rw [List.length_reverse]; exact hz, _, r.reverse, IsTup.new _ _⟩
theorem rd_revT {te : TE} {σ : L2.St} {H : Hp} {Q : VK} (h : te σ H fun x H1 => ∃ a xs, x = .ref a ∧ Tup H1 a xs ∧ NewO H1 (.tup xs.reverse) Q) : tRevT K te σ H Q := by
  have e : (fun x H1 => ∃ a xs, x = V.ref a ∧ Tup H1 a xs ∧ NewO H1 (.tup xs.reverse) Q) = (fun x H1 => ∃ a xs, x = V.ref a ∧ Tup H1 a xs ∧ ∀ H' p, Same H1 H' → H1 p = none → H' p = some (.tup xs.reverse) → Q (.ref p) H') := by
    funext x H1
    refine propext ⟨fun ⟨a, xs, h1, h2, h3⟩ => ⟨a, xs, h1, h2, fun H' p s n e => h3 p H' n s e⟩, fun ⟨a, xs, h1, h2, h3⟩ => ⟨a, xs, h1, h2, fun p H' n s e => h3 H' p s n e⟩⟩
  show te σ H _
  rw [← e]
  exact h
end
end KX

namespace KX
open PySem PySem.Spec PyProof.Rows L2
/-! sorted of a list of data that are alike -/
def rSortD (K : PySem.W.Frag) : List V → Hp → VK → Prop := fun vs H Q => ∃ (β : Type) (enc : β → PyData) (a : Addr) (xs : List V) (bs : List β) (F : V → β → Prop), vs = [V.ref a] ∧ SqL K H a xs ∧ Paired F xs bs ∧ (∀ x b, F x b → Dp K H x (enc b)) ∧
  (∀ b b', PySem.W.alike (enc b) (enc b') = true) ∧ (∀ b, ∃ x r, enc b = .tuple (x :: r)) ∧ (∀ b, (enc b).depth ≤ 60) ∧
  ∀ ys p, Paired F ys (bs.mergeSort (PySem.W.dataLe false enc)) → H p = none → Q (.ref p) (upd H p (.lst ys))
theorem each_zip {β : Type} {F : V → β → Prop} {xs : List V} {bs : List β} {its : List Value} (r : Vals xs its) (p : Paired F xs bs) : PySem.W.EachIs (fun u (z : V × β) => RelV z.1 u) its (xs.zip bs) := by
  induction p generalizing its with
  | nil => cases r; exact .nil
  | cons a _ ih =>
    cases r with
    | cons r1 r2 => exact .cons r1 (ih r2)
theorem each_reads {X : Cx} {pins : List (Addr × Obj)} {σ : L2.St} {H : Hp} {s : Shared} {β : Type} {F : V → β → Prop} {enc : β → PyData} {xs : List V} {bs : List β} {its : List Value} (I : L2.Inv X pins σ H s) (r : Vals xs its) (p : Paired F xs bs) (hd : ∀ x b, F x b → Dp X.K H x (enc b)) :
    PySem.W.EachIs (fun u (z : V × β) => ∃ as, Reads s.heap u (enc z.2) as) its (xs.zip bs) := by
  induction p generalizing its with
  | nil => cases r; exact .nil
  | cons a _ ih =>
    cases r with
    | cons r1 r2 => exact .cons (Dp.reads I _ _ _ (hd _ _ a) r1) (ih r2)
theorem paired_zip {β : Type} {F : V → β → Prop} {xs : List V} {bs : List β} (p : Paired F xs bs) : (∀ z ∈ xs.zip bs, F z.1 z.2) ∧ (xs.zip bs).map (·.2) = bs := by
  induction p with
  | nil => exact ⟨by simp, rfl⟩
  | cons a _ ih =>
    refine ⟨fun z hz => ?_, ?_⟩
    · rcases List.mem_cons.mp hz with e | e
      · rw [e]; exact a
      · exact ih.1 z e
    · have := ih.2
      exact congrArg (_ :: ·) this
theorem paired_of {β : Type} {F : V → β → Prop} : ∀ zs : List (V × β), (∀ z ∈ zs, F z.1 z.2) → Paired F (zs.map (·.1)) (zs.map (·.2))
  | [], _ => .nil
  | z :: zs, h => .cons (h z List.mem_cons_self) (paired_of zs fun y hy => h y (List.mem_cons_of_mem _ hy))
theorem vals_each {β : Type} : ∀ {out : List Value} {zs : List (V × β)}, PySem.W.EachIs (fun u (z : V × β) => RelV z.1 u) out zs → Vals (zs.map (·.1)) out
  | _, _, .nil => .nil
  | _, _, .cons a t => .cons a (vals_each t)
theorem cr_sortedD {X : Cx} (hu : X.A.units + 64 < cLine) : CallR X (.builtin "sorted") (rSortD X.K) := by
  intro pins s σ H vs us Q I r h
  obtain ⟨β, enc, a, xs, bs, F, rfl, hs, hp, hd, hal, htp, hdep, q⟩ := h
  obtain ⟨its, rv, hl, hz⟩ := I.list hs
  rw [Vals.ref1 r]
  obtain ⟨pz, pe⟩ := paired_zip hp
  have em : (xs.zip bs).map (fun z => enc z.2) = bs.map enc := by
    have : (xs.zip bs).map (fun z => enc z.2) = ((xs.zip bs).map (·.2)).map enc := by rw [List.map_map]; rfl
    rw [this, pe]
  refine PySem.W.sorted_data (bs := xs.zip bs) (enc := fun z => enc z.2) (R := fun u (z : V × β) => RelV z.1 u) hl.isList (each_zip rv hp) (each_reads I rv hp hd) (PySem.W.AllAlike.of fun z z' => hal z.2 z'.2) (PySem.W.Sortable.tuples fun z => htp z.2)
    (by rw [List.length_zip]; omega) (fun z _ => by have := hdep z.2; omega) fun out lo eo => ?_
  have hout := vals_each eo
  have ez : ((xs.zip bs).mergeSort (PySem.W.dataLe false fun z => enc z.2)).map (·.2) = bs.mergeSort (PySem.W.dataLe false enc) := by
    rw [List.map_mergeSort (r := PySem.W.dataLe false fun z : V × β => enc z.2) (s := PySem.W.dataLe false enc) (f := fun z : V × β => z.2) (fun a _ b _ => rfl), pe]
  have pf : Paired F (((xs.zip bs).mergeSort (PySem.W.dataLe false fun z => enc z.2)).map (·.1)) (bs.mergeSort (PySem.W.dataLe false enc)) := by
    rw [← ez]
    exact paired_of _ fun z hz => pz z ((List.mergeSort_perm _ _).mem_iff.mp hz)
  obtain ⟨ep, he'⟩ := PyProof.Rows.sortedAll_at s.heap its out.toArray
  refine ⟨.ref _, upd H (s.heap.objs.size + 1) (.lst (((xs.zip bs).mergeSort (PySem.W.dataLe false fun z => enc z.2)).map (·.1))), I.laid (t' := s.toks) (fun _ _ => PyProof.Rows.sortedAll_old) (Nat.le_succ _) ⟨?_, out, ep, hout, he'⟩, rfl, q _ _ pf (I.hok.fresh (Nat.le_succ _))⟩
  rw [List.length_map, (List.mergeSort_perm _ _).length_eq, List.length_zip]
  omega
theorem cr_sortedDK {X : Cx} {K : PySem.W.Frag} (hu : X.A.units + 64 < cLine) (hK : X.K = K := by rfl) : CallR X (.builtin "sorted") (rSortD K) := by subst hK; exact cr_sortedD hu
end KX

namespace KX
open PySem PySem.Spec PyProof.Rows L2
/-! min of a tuple of ints; a list times a number; an item set -/
theorem minOf_le : ∀ (xs : List Int) (x : Int), PySem.W.minOf x xs ∈ x :: xs ∧ ∀ y ∈ x :: xs, PySem.W.minOf x xs ≤ y
  | [], x => ⟨List.mem_cons_self, fun y hy => by
      have : y = x := by simpa using hy
      rw [this]; exact Int.le_refl _⟩
  | z :: xs, x => by
    have e : PySem.W.minOf x (z :: xs) = PySem.W.minOf (if z < x then z else x) xs := by
      show List.foldl _ (if decide (z < x) = true then z else x) xs = List.foldl _ (if z < x then z else x) xs
      by_cases c : z < x
      · rw [if_pos (decide_eq_true c), if_pos c]
      · rw [if_neg (by simp [c]), if_neg c]
    rw [e]
    obtain ⟨h1, h2⟩ := minOf_le xs (if z < x then z else x)
    have h3 := h2 _ List.mem_cons_self
    refine ⟨?_, fun y hy => ?_⟩
    · rcases List.mem_cons.mp h1 with y | y
      · rw [y]
        by_cases c : z < x
        · rw [if_pos c]; simp
        · rw [if_neg c]; simp
      · exact List.mem_cons_of_mem _ (List.mem_cons_of_mem _ y)
    · rcases List.mem_cons.mp hy with w | w
      · rw [w]
        by_cases c : z < x
        · rw [if_pos c] at h3; rw [if_pos c]; omega
        · rw [if_neg c] at h3; rw [if_neg c]; exact h3
      · rcases List.mem_cons.mp w with w | w
        · rw [w]
          by_cases c : z < x
          · rw [if_pos c] at h3; rw [if_pos c]; exact h3
          · rw [if_neg c] at h3; rw [if_neg c]; omega
        · exact h2 y (List.mem_cons_of_mem _ w)
def rMinT (K : PySem.W.Frag) : List V → Hp → VK → Prop := fun vs H Q => ∃ (a : Addr) (ns : List Int), vs = [V.ref a] ∧ SqT K H a (ns.map V.int) ∧ 0 < ns.length ∧ ∀ m, m ∈ ns → (∀ y, y ∈ ns → m ≤ y) → Q (.int m) H
theorem cr_minT {X : Cx} (hc : X.calm = true) (hu : X.A.units + 64 < cLine) : CallR X (.builtin "min") (rMinT X.K) := by
  intro pins s σ H vs us Q I r h
  obtain ⟨a, ns, rfl, hs, hne, q⟩ := h
  obtain ⟨its, rv, ht, _⟩ := I.tuple hs
  rw [Vals.ref1 r]
  have hi := rv.ints
  cases ns with
  | nil => exact absurd hne (by simp)
  | cons n ns =>
    refine PySem.W.min_tuple_datum (α := Int) (x := n) (xs := ns) (I.ok.hd hc) ht (by simpa using PySem.W.HoldAll.of_ints hi) ?_ fun i v h' tk hv hh hk => ?_
    · have : PySem.W.Datum.depth Int ≤ 60 := by decide
      omega
    · obtain ⟨t, rfl⟩ := PySem.W.int_of_holds hh
      obtain ⟨h1, h2⟩ := minOf_le ns n
      exact ⟨.int _, H, I.kept hk, ⟨_, rfl⟩, q _ h1 h2⟩
theorem cr_minTK {X : Cx} {K : PySem.W.Frag} (hc : X.calm = true) (hu : X.A.units + 64 < cLine) (hK : X.K = K := by rfl) : CallR X (.builtin "min") (rMinT K) := by subst hK; exact cr_minT hc hu
/-- the least of a list of numbers -/
def leastI (l : List Int) : Int := match l with
  | [] => 0
  | x :: xs => PySem.W.minOf x xs
theorem leastI_of {l : List Int} {m : Int} (hm : m ∈ l) (h : ∀ y ∈ l, m ≤ y) : m = leastI l := by
  cases l with
  | nil => cases hm
  | cons x xs =>
    obtain ⟨h1, h2⟩ := minOf_le xs x
    have a := h _ h1
    have b := h2 _ hm
    show m = PySem.W.minOf x xs
    omega
theorem rd_minT {K : PySem.W.Frag} {H : Hp} {Q : VK} {p : Addr} {ns : List Int} (ha : Tup H p (ns.map V.int)) (hn : 0 < ns.length) (h : Q (.int (leastI ns)) H) : rMinT K [.ref p] H Q :=
  ⟨p, ns, rfl, ha.sq, hn, fun m h1 h2 => by rw [leastI_of h1 h2]; exact h⟩
theorem rd_min {K : PySem.W.Frag} {H : Hp} {Q : VK} {p : Addr} {ns : List Int} (ha : H p = some (.lst (ns.map V.int))) (hn : 0 < ns.length) (h : Q (.int (leastI ns)) H) : rMin K [.ref p] H Q :=
  ⟨p, ns, rfl, SqL.of ha, hn, fun m h1 h2 => by rw [leastI_of h1 h2]; exact h⟩
theorem rd_sum {K : PySem.W.Frag} {H : Hp} {Q : VK} {p : Addr} {ns : List Int} (ha : H p = some (.lst (ns.map V.int))) (h : Q (.int ns.sum) H) : rSum K [.ref p] H Q := ⟨p, ns, rfl, SqL.of ha, h⟩
theorem rd_all {K : PySem.W.Frag} {H : Hp} {Q : VK} {p : Addr} {bs : List Bool} (ha : H p = some (.lst (bs.map V.bl))) (h : Q (.bl (bs.all id)) H) : rAll K [.ref p] H Q := ⟨p, bs, rfl, SqL.of ha, h⟩
theorem flat_one (k : Nat) (v : V) : (List.replicate k [v]).flatten = List.replicate k v := by
  induction k with
  | zero => rfl
  | succ k ih => rw [List.replicate_succ, List.flatten_cons, ih]; rfl
/-- [v] * k -/
theorem rd_rep1 {H : Hp} {Q : VK} {l : Addr} {k : Nat} {v : V} (hl : H l = some (.lst [v])) (hk : k < 1000) (h : NewO H (.lst (List.replicate k v)) Q) : rRep (.ref l) (.int (k : Nat)) H Q :=
  ⟨l, k, [v], rfl, rfl, hl, by omega, by omega, by
    have : ((k : Nat) : Int).toNat = k := by omega
    rw [this]
    exact Nat.le_trans (by simp; omega : [v].length * k ≤ 1000) (by decide), fun p hp => by
    have : ((k : Nat) : Int).toNat = k := by omega
    rw [this, flat_one]
    exact new_of h p hp⟩
theorem rd_setL {H : Hp} {p : Addr} {xs : List V} {k : Int} {v : V} {Q : Hp → Prop} (hp : H p = some (.lst xs)) (h0 : 0 ≤ k) (h1 : k < xs.length) (h : Q (upd H p (.lst (xs.set k.toNat v)))) : rSetL (.ref p) (.int k) v H Q :=
  ⟨p, xs, k, k.toNat, rfl, rfl, hp, by
    unfold ixN
    rw [if_pos h0]
    first
      | (rw [if_pos (by omega)])
      | (split <;> first | rfl | omega), h⟩
/-- t + u of tuples -/
theorem rd_catW {H : Hp} {Q : VK} {a b : Addr} {xs ys : List V} (ha : Tup H a xs) (hb : Tup H b ys) (hl : xs.length + ys.length ≤ 1000) (h : ∀ H' p, Same H H' → Tup H' p (xs ++ ys) → Q (.ref p) H') : rCatW (.ref a) (.ref b) H Q :=
  ⟨a, b, xs, ys, rfl, rfl, ha, hb, Nat.le_trans hl (by decide), h⟩
theorem rd_slW {H : Hp} {Q : VK} {a : Addr} {xs : List V} {lo hi : Option Int} (ha : Tup H a xs) (h : ∀ H' p, Same H H' → Tup H' p (cutV xs lo hi) → Q (.ref p) H') : rSlW (.ref a) lo hi H Q := ⟨a, xs, rfl, ha, h⟩
end KX

namespace KX
open PySem PySem.Spec PyProof.Rows L2
/-! ### xs[i] += e of a list: the read -/
/-- the entry of a list at a place that is there (for xs[i] op= e: the read of ps_augS) -/
def rGetL (K : PySem.W.Frag) : V → V → Hp → VK → Prop := fun o i H Q => ∃ p xs k v, o = .ref p ∧ i = .int k ∧ SqL K H p xs ∧ 0 ≤ k ∧ xs[k.toNat]? = some v ∧ Q v H
theorem get_list {X : Cx} : PGet X (rGetL X.K) := by
  intro pins s σ H o i ov iv Q I ro ri h
  obtain ⟨p, xs, k, v, rfl, rfl, hx, h0, hv, hQ⟩ := h
  cases ro
  obtain ⟨t, rfl⟩ := ri
  obtain ⟨its, r, ht, hz⟩ := I.list hx
  have hl := r.length
  obtain ⟨hk, hv2⟩ := List.getElem?_eq_some_iff.mp hv
  obtain ⟨u, hu, ru⟩ := r.get hv
  have hz2 : (PySem.sizeLine : Nat) < 2 ^ 63 := by decide +kernel
  refine wpAny_getItem_list ht.isList h0 (by omega) (x := u) (by rw [List.getElem?_toArray]; exact hu) ⟨v, H, I, ru, hQ⟩
/-! ### (v,) * k -/
/-- t * 1, t * 0 of a tuple with entries -/
def rRep01 (K : PySem.W.Frag) : R2 := fun x y H Q => ∃ l k xs, x = .ref l ∧ y = .int k ∧ SqT K H l xs ∧ xs ≠ [] ∧ ((k = 1 ∧ Q (.ref l) H) ∨ (k = 0 ∧ NewO H (.tup []) Q))
theorem op_rep01 {X : Cx} : OpR X (binaryOp .Mult) (rRep01 X.K) := by
  intro pins s σ H x y v u Q I rx ry h
  obtain ⟨l, k, xs, rfl, rfl, hx, ne, hk⟩ := h
  cases rx
  obtain ⟨t, rfl⟩ := ry
  obtain ⟨its, r, ht, hz⟩ := I.tuple hx
  have hl := r.length
  obtain ⟨o, ho, hc, n, hd⟩ := ht
  obtain ⟨oc, od, oda, osl⟩ := o
  cases hc
  cases hd
  have ht : IsTup s.heap l its.toArray := ⟨_, ho, rfl, n, rfl⟩
  refine wpAny_binaryOp_repeat_ref (T := "tuple") (U := "int") (id := "tuple.__mul__") (idr := "int.__rmul__") (ix := .builtin "int.__index__") (by decide) ht.typeIs (fun s' => rfl) L2.noFill_tuple_mul (by with_unfolding_all rfl) F.slot_int_rmul L2.repeat_tuple (by with_unfolding_all rfl) ?_
  refine call_meets F.slot_int_rmul rfl F.entry_int_rmul (by with_unfolding_all rfl) (L2.int_rmul_tuple k t l its.toArray n od osl) ⟨ho, rfl, ht.typeIs, ?_⟩
  refine wpAny_call_entry F.slot_tuple_mul ht.typeIs F.entry_tuple_mul ?_ (F.args_tuple_mul_2 _ _)
  have hne : its.toArray.isEmpty = false := by
    cases its with
    | nil => exact absurd (List.length_eq_zero_iff.mp hl) ne
    | cons a b => rfl
  rcases hk with ⟨rfl, hQ⟩ | ⟨rfl, hQ⟩
  · show wpAny _ _ (asIndex (.int 1 t) >>= _) _ _ s
    refine wpAny_bind (m := asIndex (.int 1 t)) (wpAny_bind (wpAny_pure (wpAny_pure ?_)))
    show wpAny _ _ (Builtin.Tuple.tupleItemsOf (.ref l) >>= _) _ _ s
    refine wpAny_bind (tupleItemsOf_ ht ?_)
    show wpAny _ _ (if (its.toArray.isEmpty || (1 : Int) == 1) = true then _ else _) _ _ s
    rw [if_pos (by rw [hne]; decide)]
    refine wpAny_bind (m := Builtin.Tuple.tupleIsExact (.ref l)) (wpAny_bind (wpAny_typeOf ht.typeIs (wpAny_pure ?_)))
    rw [if_pos (by decide)]
    first
      | exact wpAny_bind (wpAny_rule (wpAny_pure ⟨_, rfl, .ref l, H, I, rfl, hQ⟩))
      | exact wpAny_bind (wpAny_pure (wpAny_pure ⟨_, rfl, .ref l, H, I, rfl, hQ⟩))
      | exact wpAny_pure ⟨_, rfl, .ref l, H, I, rfl, hQ⟩
  · show wpAny _ _ (asIndex (.int 0 t) >>= _) _ _ s
    refine wpAny_bind (m := asIndex (.int 0 t)) (wpAny_bind (wpAny_pure (wpAny_pure ?_)))
    show wpAny _ _ (Builtin.Tuple.tupleItemsOf (.ref l) >>= _) _ _ s
    refine wpAny_bind (tupleItemsOf_ ht ?_)
    show wpAny _ _ (if (its.toArray.isEmpty || (0 : Int) == 1) = true then _ else _) _ _ s
    rw [if_neg (by rw [hne]; decide)]
    show wpAny _ _ (if (decide ((0 : Int) ≤ 0) || its.toArray.isEmpty) = true then _ else _) _ _ s
    rw [if_pos (by rw [hne]; decide)]
    have I5 : Inv X pins σ (upd H s.heap.objs.size (.tup [])) { s with heap := s.heap.push { cls := .type "tuple", data := .seq #[] } } :=
      I.laid (t' := s.toks) (o := .tup []) (fun b ob q => Heap.get?_push_of_some _ q) (Nat.le_refl _) ⟨by decide +kernel, _, .nil, IsTup.new _ _⟩
    refine wpAny_bind (m := Builtin.Tuple.tupleExact _) (wpAny_newObj_type ?_ (by show (0 : Nat) ≤ _; exact Nat.zero_le _))
    refine wpAny_pure ⟨_, rfl, .ref _, _, I5, rfl, hQ _ _ (I.hok.fresh (Nat.le_refl _)) (Same.fresh (I.hok.fresh (Nat.le_refl _))) upd_same⟩
/-- (v,) * k of any small number: a tuple of k times v -/
def rRepW : R2 := fun x y H Q => ∃ (l : Addr) (k : Nat) (v : V), x = .ref l ∧ y = .int k ∧ Tup H l [v] ∧ k ≤ 1000 ∧ ∀ H' a, Same H H' → Tup H' a (List.replicate k v) → Q (.ref a) H'
theorem op_repW {X : Cx} : OpR X (binaryOp .Mult) rRepW := by
  intro pins s σ H x y v u Q I rx ry h
  obtain ⟨l, k, w, e1, e2, hx, hk, hQ⟩ := h
  match k, hk, e2, hQ with
  | 0, _, e2, hQ => exact op_rep01 pins s σ H x y v u Q I rx ry ⟨l, 0, [w], e1, e2, hx.sq, by simp, .inr ⟨rfl, fun p H' n S e => hQ H' p S (Tup.of e)⟩⟩
  | 1, _, e2, hQ => exact op_rep01 pins s σ H x y v u Q I rx ry ⟨l, 1, [w], e1, e2, hx.sq, by simp, .inl ⟨rfl, hQ H l (Same.refl H) hx⟩⟩
  | k + 2, hk, e2, hQ =>
    refine op_repT pins s σ H x y v u Q I rx ry ⟨l, _, [w], e1, e2, hx.sq, by simp, by omega, by omega, by simp, fun p hp => hQ _ p (Same.fresh hp) (Tup.of ?_)⟩
    have e : (((k + 2 : Nat) : Int)).toNat = k + 2 := by omega
    rw [e, flat_one]
    exact upd_same
end KX

namespace KX
open PySem PySem.Spec PyProof.Rows L2
section
variable {prog : Program} {w : World} {A : Around} {E : Value → Shared → Prop} {s : Shared}
/-- sorted(t, reverse=b) of a tuple of whole numbers -/
theorem sorted_tupR {l : Addr} {vs : List Value} {ns : List Int} {n : Nat} {dd : Option Addr} {sl : Array (Option Value)} {b : Bool} {Q : Value → Shared → Prop}
    (hl : s.heap.get? l = some ⟨.type "tuple", dd, .seq vs.toArray n, sl⟩) (hI : IntsAre vs ns) (hz : vs.length ≤ sizeLine)
    (h : ∀ (out : Array Value) (ns' : List Int), IntsAre out.toList ns' → ns'.Perm ns → Ordered b ns' →
      Q (.ref (s.heap.objs.size + 1)) { s with heap := sortedAll s.heap vs out }) :
    wpAny (model prog w) A (call (.builtin "sorted") [.ref l] [(Str.ofString "reverse", .bool b)]) Q E s := by
  refine call_function_entry_kw kind_sorted plain_sorted entry_sorted (args_sorted_rev _ _) ?_
  unfold Builtin.«sorted»
  refine wpAny_bind (m := checkCount "sorted" 1 1 _) (wpAny_pure ?_)
  apply wpAny_bind
  refine collect_tup hl hz ?_
  apply wpAny_bind
  refine wpAny_newList ?_ (hsz := hz)
  have hs2 : ((s.heap.push (seqObj "list" #[] 0)).update s.heap.objs.size
      (Obj.mapSeq (· ++ vs.toArray))).objs.size = s.heap.objs.size + 1 := by
    rw [Heap.size_update]
    exact Heap.size_push ..
  have ho : (((s.heap.push (seqObj "list" #[] 0)).update s.heap.objs.size
      (Obj.mapSeq (· ++ vs.toArray))).push (seqObj "list" vs.toArray 0)).get? (s.heap.objs.size + 1) =
      some (seqObj "list" vs.toArray 0) := by
    rw [← hs2]
    exact Heap.get?_push_size _ rfl
  show wpAny _ _ _ _ _
    { s with heap := (((s.heap.push (seqObj "list" #[] 0)).update s.heap.objs.size
      (Obj.mapSeq (· ++ vs.toArray))).push (seqObj "list" vs.toArray 0)) }
  rw [hs2]
  apply wpAny_bind
  apply wpAny_holding
  refine wpAny_call_entry_kw slot_list_sort ⟨_, ho, rfl⟩ entry_list_sort ?_ (args_list_sort_rev _ _)
  refine SrtR.list_sort_ordR SrtO.swo_int ho hz (fun h2 => SrtO.ints_sortable hI h2) fun out h1 h2 => ⟨_, rfl, ?_⟩
  obtain ⟨ns', a1, a2, a3⟩ := SrtR.ints_outR hI h1 h2
  exact wpAny_pure ⟨_, rfl, h _ ns' a1 a2 a3⟩
end
def rSortRevT (K : PySem.W.Frag) (b : Bool) : List V → List V → Hp → VK → Prop := fun vs zs H Q => ∃ (a : Addr) (ns : List Int), vs = [V.ref a] ∧ zs = [V.bl b] ∧ Tup H a (ns.map V.int) ∧
  ∀ (ns' : List Int) (p : Addr) (H' : Hp), ns'.Perm ns → OrdB b ns' → H p = none → Same H H' → H' p = some (.lst (ns'.map V.int)) → Q (.ref p) H'
theorem cr_sortedRevT {X : Cx} {b : Bool} : CallRK X (.builtin "sorted") [Str.ofString "reverse"] (rSortRevT X.K b) := by
  intro pins s σ H xs zs us ws Q I r rz h
  obtain ⟨a, ns, rfl, rfl, hs, q⟩ := h
  obtain ⟨its, rv, ⟨⟨cls, dd, data, sl⟩, ho, hc, n, hd⟩, hz⟩ := I.tuple hs.sq
  simp only at hc hd
  subst hc hd
  rw [Vals.ref1 r]
  obtain ⟨wv, rfl, rb⟩ := rz.one
  cases rb
  have hi := rv.ints
  have hl := rv.length
  refine sorted_tupR ho hi (by omega) fun out ns' h1 h2 h3 => ?_
  obtain ⟨ep, he⟩ := sortedAll_at s.heap its out
  have hlen : (ns'.map V.int).length ≤ sizeLine := by
    rw [List.length_map, h2.length_eq]
    rw [List.length_map] at hz
    exact hz
  have nf := I.hok.fresh (Nat.le_succ s.heap.objs.size)
  refine ⟨.ref _, upd H (s.heap.objs.size + 1) (.lst (ns'.map V.int)), ?_, rfl, q ns' _ _ h2 h3 nf (Same.fresh nf) upd_same⟩
  exact I.laid (t' := s.toks) (fun _ _ => sortedAll_old) (Nat.le_succ _) ⟨hlen, out.toList, ep, vals_of_ints h1, he⟩
/-! max(list, default=d) of whole numbers -/
theorem foldmax : ∀ (ns : List Int) (n : Int), ns.foldl max n ∈ n :: ns ∧ ∀ y ∈ n :: ns, y ≤ ns.foldl max n
  | [], n => ⟨List.mem_singleton.mpr rfl, fun y hy => by rw [List.mem_singleton.mp hy]; exact Int.le_refl _⟩
  | m :: ns, n => by
    obtain ⟨h1, h2⟩ := foldmax ns (max n m)
    show ns.foldl max (max n m) ∈ _ ∧ ∀ y ∈ n :: m :: ns, y ≤ ns.foldl max (max n m)
    have h3 := h2 (max n m) (List.mem_cons_self ..)
    constructor
    · rcases List.mem_cons.mp h1 with e | e
      · rw [e]
        by_cases c : n ≤ m
        · rw [show max n m = m by omega]; simp
        · rw [show max n m = n by omega]; simp
      · exact List.mem_cons_of_mem _ (List.mem_cons_of_mem _ e)
    · intro y hy
      rcases List.mem_cons.mp hy with e | e
      · omega
      · rcases List.mem_cons.mp e with e | e
        · omega
        · exact h2 y (List.mem_cons_of_mem _ e)
/-- the greatest of a list, or d -/
def mostI (d : Int) (l : List Int) : Int := match l with
  | [] => d
  | x :: xs => xs.foldl max x
def rMaxDef (K : PySem.W.Frag) : List V → List V → Hp → VK → Prop := fun vs zs H Q => ∃ (a : Addr) (ns : List Int) (d : Int), vs = [V.ref a] ∧ zs = [V.int d] ∧ SqL K H a (ns.map V.int) ∧ Q (.int (mostI d ns)) H
theorem cr_maxDef {X : Cx} (hc : X.calm = true) (hu : X.A.units + 64 < cLine) : CallRK X (.builtin "max") [Str.ofString "default"] (rMaxDef X.K) := by
  intro pins s σ H xs zs us ws Q I r rz h
  obtain ⟨a, ns, d, rfl, rfl, hs, q⟩ := h
  obtain ⟨its, rv, ht, hz⟩ := I.list hs
  rw [Vals.ref1 r]
  obtain ⟨wv, rfl, rb⟩ := rz.one
  obtain ⟨t, rfl⟩ := rb
  have hi := rv.ints
  have hd : PyData.depthAll (ns.map PyData.int) ≤ 1 := by
    have e : ∀ l : List Int, PyData.depthAll (l.map PyData.int) ≤ 1 := by
      intro l
      induction l with
      | nil => decide
      | cons n l ih =>
        show max (PyData.depth (.int n)) (PyData.depthAll (l.map PyData.int)) ≤ 1
        have h1 : PyData.depth (.int n) = 0 := rfl
        rw [h1]; omega
    exact e ns
  refine PySem.W.max_list_default (xs := ns.map PyData.int) (as := []) (I.ok.hd hc) ht.isList (by simpa using hi.reads s.heap) ⟨?_, ?_⟩ (by omega) ?_ ?_
  · intro x hx y hy
    obtain ⟨i, _, rfl⟩ := List.mem_map.mp hx
    obtain ⟨j, _, rfl⟩ := List.mem_map.mp hy
    rfl
  · intro x hx
    obtain ⟨i, _, rfl⟩ := List.mem_map.mp hx
    intro e; cases e
  · intro e h' tk hk
    have e2 : ns = [] := List.map_eq_nil_iff.mp e
    subst e2
    exact ⟨.int _, H, I.kept hk, ⟨_, rfl⟩, q⟩
  · intro y ys i v h' tk bs e hv hr hk
    match ns, e with
    | n :: ns, e =>
      obtain ⟨rfl, rfl⟩ := List.cons.inj e
      rw [PySem.W.maxD_ints] at hr
      cases hr
      exact ⟨.int _, H, I.kept hk, ⟨_, rfl⟩, q⟩
end KX

namespace KX
open PySem PySem.Spec PyProof.Rows L2
section
variable {prog : Program} {w : World} {A : Around} {E : Value → Shared → Prop} {s : Shared}
/-- sorted(d.items(), reverse=b), from the list that is made on -/
theorem sorted_itemsR {r d : Addr} {es : Array DictEntry} {ep : Nat} {b : Bool} {Q : Value → Shared → Prop} (hh : A.handled = none) (hv : s.heap.IsItemsView r d) (hr : DT.Raw s.heap d es ep) (hz : es.size ≤ sizeLine)
    (k : Heap → Value → Int × Int)
    (hk : ∀ (h' : Heap) (as : List Addr), DT.Made es s.heap.objs.size h' as → ∀ v ∈ as.map Value.ref, ∀ o, Srt.IsPair (h'.push o) v (k h' v).1 (k h' v).2)
    (h : ∀ (h' : Heap) (tk : Nat) (as : List Addr) (out : List Value), (∀ (b : Addr) (o : Obj), s.heap.get? b = some o → h'.get? b = some o) → s.heap.objs.size < h'.objs.size → as.length = es.size → DT.Made es s.heap.objs.size h' as →
      SrtO.Srtd (fun v u => SrtO.lexB (k h' v) (k h' u)) out → SrtO.Stb (fun v u => SrtO.lexB (k h' v) (k h' u)) out (if b = true then (as.map Value.ref).reverse else as.map Value.ref) →
      Q (.ref h'.objs.size) { heap := sortedHeap (h'.push (seqObj "list" (as.map Value.ref).toArray 0)) h'.objs.size (as.map Value.ref) (if b = true then out.toArray.reverse else out.toArray), gens := s.gens, drawn := s.drawn, toks := tk, os := s.os }) :
    wpAny (model prog w) A (call (.builtin "sorted") [.ref r] [(Str.ofString "reverse", .bool b)]) Q E s := by
  refine call_function_entry_kw kind_sorted plain_sorted entry_sorted (args_sorted_rev _ _) ?_
  unfold Builtin.«sorted»
  refine wpAny_bind (m := checkCount "sorted" 1 1 _) (wpAny_pure ?_)
  apply wpAny_bind
  refine DT.collectI (A := A.in1) hh hv hr hz fun h' tk as k1 k2 k3 M => ?_
  apply wpAny_bind
  have hz' : (as.map Value.ref).length ≤ sizeLine := by rw [List.length_map, k3]; exact hz
  refine wpAny_newList ?_ (hsz := hz')
  have ho : (h'.push (seqObj "list" (as.map Value.ref).toArray 0)).get? h'.objs.size = some (seqObj "list" (as.map Value.ref).toArray 0) := Heap.get?_push_size _ rfl
  apply wpAny_bind
  apply wpAny_holding
  refine wpAny_call_entry_kw slot_list_sort ⟨_, ho, rfl⟩ entry_list_sort ?_ (args_list_sort_rev _ _)
  refine SrtR.list_sort_ordR (SrtO.swo_lex (k h')) ho hz' (fun h2 => SrtO.pairs_sortableO (by omega) (fun v hv => hk h' as M v hv _) (fun o e => ?_)) fun out h1 h2 => ⟨_, rfl, ?_⟩
  · rw [show _ = some _ from ho] at e
    cases e
    show Value.type "list" ≠ Value.type "tuple"
    decide
  · exact wpAny_pure ⟨_, rfl, h h' tk as out k1 k2 k3 M h1 h2⟩
end
/-! d.items() of a dict with whole numbers; sorted of it -/
theorem mt_itemsK {X : Cx} : MtR X "dict.items" (fun x xs H Q => ∃ a kvs, x = V.ref a ∧ xs = [] ∧ H a = some (HO.dK kvs) ∧ ∀ (p : Addr), H p = none → Q (V.ref p) (upd H p (DX.itemsO p a))) := by
  intro pins s σ H x xs v us Q I rx rxs h
  obtain ⟨a, kvs, rfl, rfl, ha, q⟩ := h
  cases rx
  cases rxs
  obtain ⟨x1, low, vs, kv, o, es, ep, hg, hx, hd, hks, hp, nd⟩ := I.hok a _ ha
  refine DT.callItems low ⟨o, hg, hx, hd⟩ ?_
  refine ⟨.ref _, _, I.laid (t' := s.toks) (o := DX.itemsO s.heap.objs.size a) (fun b ob q => Heap.get?_push_of_some _ q) (Nat.le_refl _) (DX.itemsO_ok (Heap.get?_push_size _ rfl)), rfl, q _ (I.hok.fresh (Nat.le_refl _))⟩
/-- the pairs of numbers that stand at these values -/
def pairAt (h : Heap) (v : Value) : Int × Int := match v with
  | .ref a => match h.get? a with
    | some o => match o.data with
      | .seq its _ => match its[0]?, its[1]? with
        | some (Value.int i _), some (Value.int j _) => (i, j)
        | _, _ => (0, 0)
      | _ => (0, 0)
    | none => (0, 0)
  | _ => (0, 0)
theorem ents_of {P : Program} {w : World} : ∀ (ps : List (Int × Int)) (vs : List (Key × Value)) (es : List DictEntry), KV (ps.map fun q => ((Sum.inl q.1 : Key), V.int q.2)) vs → PySem.Pairs (mixKind P w) es vs →
    es.length = ps.length ∧ ∀ (j : Nat) (e : DictEntry), es[j]? = some e → ∃ q t u, ps[j]? = some q ∧ e.key = Value.int q.1 t ∧ e.val = Value.int q.2 u
  | [], _, _, .nil, .nil => ⟨rfl, fun j e h => by simp at h⟩
  | q :: ps, (k, v) :: vs, e :: es, .cons hq tl, .cons h1 h2 h3 => by
    obtain ⟨l, r⟩ := ents_of ps vs es tl h3
    refine ⟨by simp [l], fun j e' h => ?_⟩
    cases j with
    | zero =>
      have e2 : e = e' := by simpa using h
      subst e2
      obtain ⟨hk, t, hv⟩ := hq
      change Sum.inl q.1 = k at hk
      subst hk
      change Value.isInt q.1 e.key = true at h1
      refine ⟨q, ?_⟩
      cases hek : e.key with
      | int i tk =>
        rw [hek] at h1
        have : i = q.1 := by simpa [Value.isInt] using h1
        exact ⟨tk, t, rfl, by rw [this], by rw [h2]; exact hv⟩
      | _ => rw [hek] at h1; cases h1
    | succ j => exact r j e' (by simpa using h)
def rSortItR (b : Bool) : List V → List V → Hp → VK → Prop := fun vs zs H Q => ∃ (p a : Addr) (ps : List (Int × Int)), vs = [V.ref p] ∧ zs = [V.bl b] ∧ H p = some (DX.itemsO p a) ∧ H a = some (.dK (ps.map fun q => (Sum.inl q.1, V.int q.2))) ∧
  ∀ (H' : Hp) (l : Addr) (ts : List Addr) (qs : List (Int × Int)), Same H H' → H l = none → H' l = some (.lst (ts.map V.ref)) → qs.Perm ps → Paired (fun t q => H t = none ∧ H' t = some (.tup [.int q.1, .int q.2])) ts qs →
    (if b = true then qs.Pairwise (fun x y => SrtO.lexB x y = false) else qs.Pairwise (fun x y => SrtO.lexB y x = false)) → Q (.ref l) H'
theorem cr_sortedItR {X : Cx} (hc : X.calm = true) {b : Bool} : CallRK X (.builtin "sorted") [Str.ofString "reverse"] (rSortItR b) := by
  intro pins s σ H xs zs us ws Q I r rz h
  obtain ⟨p, a, ps, rfl, rfl, hp, ha, q⟩ := h
  rw [Vals.ref1 r]
  obtain ⟨wv, rfl, rb⟩ := rz.one
  cases rb
  obtain ⟨x1, low, vs, kv, o, es, ep, hg, hx, hd, hks, hpr, nd⟩ := I.hok a _ ha
  have hv : s.heap.IsItemsView p a := by
    have z := I.hok p _ hp
    first | exact z | exact z.2 | exact z.1
  obtain ⟨hl, hent0⟩ := ents_of ps vs es.toList kv hpr
  have hen : es.size ≤ sizeLine := by
    rw [List.length_map] at x1
    have : es.toList.length = es.size := Array.length_toList
    omega
  have hent : ∀ j : Nat, ∀ e, es[j]? = some e → ∃ q t u, ps[j]? = some q ∧ e.key = .int q.1 t ∧ e.val = .int q.2 u := fun j e he => hent0 j e (by rw [Array.getElem?_toList]; exact he)
  refine sorted_itemsR (A := X.A) (I.ok.hd hc) hv ⟨o, hg, hx, hd⟩ hen pairAt (fun h' as M v hv o => ?_) fun h' tk as out k1 k2 k3 M s1 s2 => ?_
  · obtain ⟨t, ht, rfl⟩ := List.mem_map.mp hv
    obtain ⟨j, hj, e⟩ := List.getElem_of_mem ht
    obtain ⟨e, he, hh⟩ := M.pairs j t (by rw [List.getElem?_eq_getElem hj, e])
    obtain ⟨q, t1, t2, hq, e1, e2⟩ := hent j e he
    rw [e1, e2] at hh
    refine ⟨t, _, t1, t2, 0, rfl, Heap.get?_push_of_some _ hh, rfl, ?_⟩
    have : pairAt h' (.ref t) = q := by
      simp only [pairAt, hh]
      rfl
    rw [this]
  · have hpa : ∀ (j : Nat) (t : Addr), as[j]? = some t → ∃ q t1 t2, ps[j]? = some q ∧ pairAt h' (.ref t) = q ∧ h'.get? t = some { cls := .type "tuple", data := .seq #[.int q.1 t1, .int q.2 t2] } := by
      intro j t e
      obtain ⟨e, he, hh⟩ := M.pairs j t e
      obtain ⟨q, t1, t2, hq, e1, e2⟩ := hent j e he
      rw [e1, e2] at hh
      exact ⟨q, t1, t2, hq, by simp only [pairAt, hh]; rfl, hh⟩
    have hps : as.map (fun t => pairAt h' (.ref t)) = ps := by
      have l2 : as.length = ps.length := by rw [k3, ← hl]; simp
      refine List.ext_getElem (by simpa using l2) fun j h1 h2 => ?_
      have h1' : j < as.length := by simpa using h1
      obtain ⟨q, t1, t2, hq, e, _⟩ := hpa j as[j] (List.getElem?_eq_getElem h1')
      rw [List.getElem?_eq_getElem h2] at hq
      rw [List.getElem_map, e]
      exact (Option.some.inj hq).symm
    let fin : List Value := if b = true then out.reverse else out
    have hfin : (if b = true then out.toArray.reverse else out.toArray) = fin.toArray := by
      show _ = (if b = true then out.reverse else out).toArray
      cases b <;> simp
    have hperm : fin.Perm (as.map Value.ref) := by
      show (if b = true then out.reverse else out).Perm _
      have hp := s2.perm
      cases b
      · simpa using hp
      · simp only [if_true] at hp ⊢
        exact (List.reverse_perm out).trans (hp.trans (List.reverse_perm _))
    let ts : List Addr := fin.map fun v => match v with | .ref a => a | _ => 0
    have hts : ts.map Value.ref = fin := by
      show (fin.map _).map _ = fin
      rw [List.map_map]
      refine (List.map_congr_left fun v hv => ?_).trans (List.map_id fin)
      obtain ⟨t, _, rfl⟩ := List.mem_map.mp (hperm.mem_iff.mp hv)
      rfl
    have hpt : ts.Perm as := by
      have := hperm.map (fun v => match v with | Value.ref a => a | _ => (0 : Addr))
      rw [List.map_map] at this
      have e : (as.map ((fun v => match v with | Value.ref a => a | _ => (0 : Addr)) ∘ Value.ref)) = as := (List.map_congr_left fun v hv => rfl).trans (List.map_id as)
      rw [e] at this
      exact this
    let qs := ts.map fun t => pairAt h' (.ref t)
    have hqp : qs.Perm ps := by rw [← hps]; exact hpt.map _
    have hord : if b = true then qs.Pairwise (fun x y => SrtO.lexB x y = false) else qs.Pairwise (fun x y => SrtO.lexB y x = false) := by
      have e : qs = fin.map (pairAt h') := by
        have e0 : fin.map (pairAt h') = (ts.map Value.ref).map (pairAt h') := by rw [hts]
        rw [e0, List.map_map]; rfl
      rw [e]
      show if b = true then ((if b = true then out.reverse else out).map (pairAt h')).Pairwise _ else ((if b = true then out.reverse else out).map (pairAt h')).Pairwise _
      cases b
      · simp only [Bool.false_eq_true, if_false]
        exact List.pairwise_map.mpr s1
      · simp only [if_true]
        exact List.pairwise_map.mpr (List.pairwise_reverse.mpr s1)
    rw [hfin]
    have hnew : (h'.push (seqObj "list" (as.map Value.ref).toArray 0)).get? h'.objs.size = some (seqObj "list" (as.map Value.ref).toArray 0) := Heap.get?_push_size _ rfl
    obtain ⟨ep2, hat⟩ := sortedHeap_at (out := fin.toArray) hnew
    have hold : ∀ (b : Addr) (o : Obj), h'.get? b = some o → (sortedHeap (h'.push (seqObj "list" (as.map Value.ref).toArray 0)) h'.objs.size (as.map Value.ref) fin.toArray).get? b = some o := fun b o e => by
      have lt : b < h'.objs.size := by
        rcases Nat.lt_or_ge b h'.objs.size with c | c
        · exact c
        · have e3 : h'.objs[b]? = none := Array.getElem?_eq_none c
          unfold Heap.get? at e
          rw [e3] at e
          cases e
      rw [sortedHeap_old (Nat.ne_of_lt lt) (by show b < (h'.objs.push _).size; rw [Array.size_push]; exact Nat.lt_succ_of_lt lt)]
      exact Heap.get?_push_of_some _ e
    have lts : ts.length = as.length := hpt.length_eq
    have I5 := I.laid (t' := tk) (a := h'.objs.size) (o := .lst (ts.map V.ref)) (fun b o e => hold b o (k1 b o e)) (Nat.le_of_lt k2) ⟨by rw [List.length_map, lts, k3]; exact hen, fin, ep2, by rw [← hts]; exact LiI.vals_refs ts, hat⟩
    have nf : H h'.objs.size = none := I.hok.fresh (Nat.le_of_lt k2)
    obtain ⟨H2, I6, e6, t6⟩ := DX.takeT (P := fun t vs => vs = [V.int (pairAt h' (.ref t)).1, V.int (pairAt h' (.ref t)).2]) I as _ I5 (M.rise.imp fun h => Nat.ne_of_lt h) (fun t ht => by
      obtain ⟨j, hj, e⟩ := List.getElem_of_mem ht
      obtain ⟨q, t1, t2, hq, e1, hh⟩ := hpa j t (by rw [List.getElem?_eq_getElem hj, e])
      have lo := M.above t ht
      have hi : t < h'.objs.size := M.there ht
      refine ⟨Nat.le_of_lt lo, by rw [upd_ne (Nat.ne_of_lt hi)]; exact I.hok.fresh (Nat.le_of_lt lo), _, rfl, fun H2 => ?_⟩
      rw [e1]
      exact ⟨by show 2 ≤ _; decide +kernel, _, .cons ⟨t1, rfl⟩ (.cons ⟨t2, rfl⟩ .nil), ⟨_, hold _ _ hh, rfl, 0, rfl⟩⟩)
    refine ⟨.ref _, H2, I6, rfl, q H2 _ ts qs (fun b o e => e6 b o (Same.fresh nf b o e)) nf (e6 _ _ upd_same) hqp ?_ hord⟩
    have hall : ∀ l : List Addr, (∀ t ∈ l, t ∈ as) → Paired (fun t q => H t = none ∧ H2 t = some (.tup [.int q.1, .int q.2])) l (l.map fun t => pairAt h' (.ref t)) := by
      intro l
      induction l with
      | nil => exact fun _ => .nil
      | cons t l ih =>
        intro hm
        have ht := hm t (List.mem_cons_self ..)
        obtain ⟨vs, ev, e⟩ := t6 t ht
        subst ev
        exact .cons ⟨I.hok.fresh (Nat.le_of_lt (M.above t ht)), e⟩ (ih fun t ht => hm t (List.mem_cons_of_mem _ ht))
    exact hall ts fun t ht => hpt.mem_iff.mp ht
/-! with K named -/
theorem cr_sortedRevTK {X : Cx} {K : PySem.W.Frag} {b : Bool} (hK : X.K = K := by rfl) : CallRK X (.builtin "sorted") [Str.ofString "reverse"] (rSortRevT K b) := by subst hK; exact cr_sortedRevT
theorem cr_maxDefK {X : Cx} {K : PySem.W.Frag} (hc : X.calm = true) (hu : X.A.units + 64 < cLine) (hK : X.K = K := by rfl) : CallRK X (.builtin "max") [Str.ofString "default"] (rMaxDef K) := by subst hK; exact cr_maxDef hc hu
theorem get_listK {X : Cx} {K : PySem.W.Frag} (hK : X.K = K := by rfl) : PGet X (rGetL K) := by subst hK; exact get_list
end KX

namespace KX
open PySem PySem.Spec PyProof.Rows L2
/-! ### sum of a tuple of whole numbers -/
def rSumT (K : PySem.W.Frag) : List V → Hp → VK → Prop := fun vs H Q => ∃ (a : Addr) (ns : List Int), vs = [V.ref a] ∧ SqT K H a (ns.map V.int) ∧ Q (.int ns.sum) H
theorem cr_sumT {X : Cx} (hc : X.calm = true) : CallR X (.builtin "sum") (rSumT X.K) := by
  intro pins s σ H vs us Q I r h
  obtain ⟨a, ns, rfl, hs, q⟩ := h
  obtain ⟨its, rv, ht, _⟩ := I.tuple hs
  rw [Vals.ref1 r]
  have hi := rv.ints
  obtain ⟨o, ho, hc', n, hd⟩ := ht
  have hl : s.heap.IsTuple a its.toArray := ⟨o, ho, hc', n, hd⟩
  obtain ⟨xs, hx⟩ := hi.allInts.items
  have hn : PySem.numsOf its.toArray.toList = ns := by rw [show its.toArray.toList = its from rfl, hi.numsOf]
  rw [hx] at hl hn
  rw [nums_intItems] at hn
  refine PySem.W.ktm_sumG (I.ok.hd hc) hl fun h' tk t' hk => ?_
  rw [preSum_eq, List.take_of_length_le (by simp), hn]
  exact ⟨.int _, H, I.kept hk, ⟨_, rfl⟩, q⟩
theorem cr_sumTK {X : Cx} {K : PySem.W.Frag} (hc : X.calm = true) (hK : X.K = K := by rfl) : CallR X (.builtin "sum") (rSumT K) := by subst hK; exact cr_sumT hc
theorem rd_sumT {K : PySem.W.Frag} {H : Hp} {Q : VK} {p : Addr} {ns : List Int} (ha : Tup H p (ns.map V.int)) (h : Q (.int ns.sum) H) : rSumT K [.ref p] H Q := ⟨p, ns, rfl, ha.sq, h⟩
/-! ### tuples whose objects are known -/
theorem pe_tupleFK {X : Cx} {K : PySem.W.Frag} {a : Expr} {ta : TE} {p pos : Pos} (hg : Gl X "tuple") (hm : X.mg "tuple" = none) (ha : PE X a ta)
    (na : starEach [a] X.env = (false, eval a X.env) :: starEach [] X.env := by rfl) (hK : X.K = K := by rfl) :
    PE X (.Call (.Name "tuple" p) [a] [] pos) (tThen ta (kTupF K)) := by subst hK; exact pe_tupleF hg hm ha na
theorem rd_tupF {K : PySem.W.Frag} {H : Hp} {Q : VK} {p : Addr} {xs : List V} (ha : H p = some (.lst xs)) (h : ∀ H' q, Same H H' → H q = none → TupF H' q xs → Q (.ref q) H') : kTupF K (.ref p) H Q :=
  ⟨p, xs, rfl, SqL.of ha, fun q o n h1 h2 => h _ q (Same.fresh n) n ⟨o, upd_same, h1, h2⟩⟩
def tTupF (t : TA) : TE := fun σ H Q => t σ H fun xs H1 => xs.length ≤ sizeLine ∧ ∀ H' p, Same H1 H' → TupF H' p xs → Q (.ref p) H'
theorem pe_tupF {X : Cx} {es : List Expr} {t : TA} {pos : Pos} {x1} (h : PA X es t) : PE X (.Tuple es x1 pos) (tTupF t) := by
  refine ⟨fun pins s σ H Q I hq => ?_⟩
  refine wpAny_Tuple_spliced (thn (h.run pos pins s σ H _ I hq) fun us s1 ⟨xs, H1, I1, r, z, q⟩ => ⟨by rw [← r.length]; exact z, ?_⟩)
  have hf : H1 s1.heap.objs.size = none := I1.hok.fresh (Nat.le_refl _)
  refine ⟨.ref s1.heap.objs.size, upd H1 s1.heap.objs.size (.frz { cls := .type "tuple", data := .seq us.toArray } (.tup xs)), I1.laid (t' := s1.toks) (fun b u e => Heap.get?_push_of_some _ e) (Nat.le_refl _) ?_, rfl, q _ _ (Same.fresh hf) ⟨_, upd_same, rfl, rfl⟩⟩
  exact ⟨Heap.get?_push_size _ rfl, z, us, r, ⟨_, Heap.get?_push_size _ rfl, rfl, _, rfl⟩⟩
theorem rd_tupFd {t : TA} {σ : L2.St} {H : Hp} {Q : VK} (h : t σ H fun xs H1 => xs.length ≤ sizeLine ∧ ∀ H' p, Same H1 H' → TupF H' p xs → Q (.ref p) H') : tTupF t σ H Q := h
/-- (v,) * k of any small number, the object known -/
def rRepF : R2 := fun x y H Q => ∃ (l : Addr) (k : Nat) (v : V), x = .ref l ∧ y = .int k ∧ TupF H l [v] ∧ k ≤ 1000 ∧ ∀ H' a, Same H H' → TupF H' a (List.replicate k v) → Q (.ref a) H'
theorem op_repF {X : Cx} : OpR X (binaryOp .Mult) rRepF := by
  intro pins s σ H x y v u Q I rx ry h
  obtain ⟨l, k, w, e1, e2, hx, hk, hQ⟩ := h
  subst e1
  subst e2
  cases rx
  obtain ⟨t, rfl⟩ := ry
  obtain ⟨its, r, ht, hz⟩ := I.tuple hx.tup.sq
  have hl : its.length = 1 := r.length.symm
  obtain ⟨o, ho, hc, n, hd⟩ := ht
  obtain ⟨oc, od, oda, osl⟩ := o
  cases hc
  cases hd
  have ht : IsTup s.heap l its.toArray := ⟨_, ho, rfl, n, rfl⟩
  have hne : its.toArray.isEmpty = false := by
    cases its with
    | nil => simp at hl
    | cons a b => rfl
  by_cases c2 : 2 ≤ k
  · have hsz0 : its.toArray.size = 1 := by rw [List.size_toArray, hl]
    have flen : (List.replicate k its).flatten.length ≤ sizeLine := by
      rw [PyProof.Rows.lm_len_rep_flat, hl, sizeLine_eq]; omega
    have en : ((k : Nat) : Int).toNat = k := by omega
    have c0 : (decide (((k : Nat) : Int) < -(2 ^ 63)) || decide (((k : Nat) : Int) ≥ 2 ^ 63)) = false := by
      rw [decide_eq_false (by omega), decide_eq_false (by omega)] <;> rfl
    have c1 : (its.toArray.isEmpty || ((k : Nat) : Int) == 1) = false := by
      rw [hne, Bool.false_or]
      exact beq_eq_false_iff_ne.mpr (by omega)
    have c3 : (decide (((k : Nat) : Int) ≤ 0) || its.toArray.isEmpty) = false := by
      rw [hne, Bool.or_false]
      exact decide_eq_false (by omega)
    have c4 : Builtin.Tuple.tupleTooMany (((its.toArray.size : Nat) : Int) * ((k : Nat) : Int)) = false := by
      unfold Builtin.Tuple.tupleTooMany
      rw [sizeLine_eq, hsz0]
      exact decide_eq_false (by omega)
    refine wpAny_binaryOp_repeat_ref (T := "tuple") (U := "int") (by decide) ⟨_, ho, rfl⟩ (fun s' => typeIs_int s' _ t) noFill_tuple_mul F.fills_int_mul F.slot_int_rmul repeat_tuple F.slot_int_index.lookup
      (call_meets F.slot_int_rmul (typeIs_int s _ t) F.entry_int_rmul (F.args_int_rmul_2 _ _) (int_rmul_tuple _ t l its.toArray n od osl)
        ⟨ho, rfl, ⟨_, ho, rfl⟩, call_meets F.slot_tuple_mul ⟨_, ho, rfl⟩ F.entry_tuple_mul (F.args_tuple_mul_2 _ _) (tuple_mulW l its.toArray n od osl _ t c0 c1 c3 (by rw [hsz0]; omega) c4 (by rw [size_rep, List.size_toArray, en]; exact flen)) ⟨ho, ?_⟩⟩)
    rw [size_rep, en]
    have hf : H s.heap.objs.size = none := I.hok.fresh (Nat.le_refl _)
    refine ⟨.ref s.heap.objs.size, _, I.laid (t' := s.toks) (o := .frz { cls := .type "tuple", data := .seq (List.replicate k its).flatten.toArray } (.tup (List.replicate k [w]).flatten)) (fun b ob q => Heap.get?_push_of_some _ q) (Nat.le_refl _) ?_, rfl, hQ _ _ (Same.fresh hf) ⟨_, by rw [upd_same, flat_one], rfl, rfl⟩⟩
    exact ⟨Heap.get?_push_size _ rfl, by rw [flat_one, List.length_replicate, sizeLine_eq]; omega, _, r.rep k, IsTup.new _ _⟩
  · refine wpAny_binaryOp_repeat_ref (T := "tuple") (U := "int") (id := "tuple.__mul__") (idr := "int.__rmul__") (ix := .builtin "int.__index__") (by decide) ht.typeIs (fun s' => rfl) L2.noFill_tuple_mul (by with_unfolding_all rfl) F.slot_int_rmul L2.repeat_tuple (by with_unfolding_all rfl) ?_
    refine call_meets F.slot_int_rmul rfl F.entry_int_rmul (by with_unfolding_all rfl) (L2.int_rmul_tuple _ t l its.toArray n od osl) ⟨ho, rfl, ht.typeIs, ?_⟩
    refine wpAny_call_entry F.slot_tuple_mul ht.typeIs F.entry_tuple_mul ?_ (F.args_tuple_mul_2 _ _)
    have hk2 : k = 1 ∨ k = 0 := by omega
    rcases hk2 with rfl | rfl
    · show wpAny _ _ (asIndex (.int 1 t) >>= _) _ _ s
      refine wpAny_bind (m := asIndex (.int 1 t)) (wpAny_bind (wpAny_pure (wpAny_pure ?_)))
      show wpAny _ _ (Builtin.Tuple.tupleItemsOf (.ref l) >>= _) _ _ s
      refine wpAny_bind (tupleItemsOf_ ht ?_)
      show wpAny _ _ (if (its.toArray.isEmpty || (1 : Int) == 1) = true then _ else _) _ _ s
      rw [if_pos (by rw [hne]; decide)]
      refine wpAny_bind (m := Builtin.Tuple.tupleIsExact (.ref l)) (wpAny_bind (wpAny_typeOf ht.typeIs (wpAny_pure ?_)))
      rw [if_pos (by decide)]
      have fin := hQ H l (Same.refl H) hx
      first
        | exact wpAny_bind (wpAny_rule (wpAny_pure ⟨_, rfl, .ref l, H, I, rfl, fin⟩))
        | exact wpAny_bind (wpAny_pure (wpAny_pure ⟨_, rfl, .ref l, H, I, rfl, fin⟩))
        | exact wpAny_pure ⟨_, rfl, .ref l, H, I, rfl, fin⟩
    · show wpAny _ _ (asIndex (.int 0 t) >>= _) _ _ s
      refine wpAny_bind (m := asIndex (.int 0 t)) (wpAny_bind (wpAny_pure (wpAny_pure ?_)))
      show wpAny _ _ (Builtin.Tuple.tupleItemsOf (.ref l) >>= _) _ _ s
      refine wpAny_bind (tupleItemsOf_ ht ?_)
      show wpAny _ _ (if (its.toArray.isEmpty || (0 : Int) == 1) = true then _ else _) _ _ s
      rw [if_neg (by rw [hne]; decide)]
      show wpAny _ _ (if (decide ((0 : Int) ≤ 0) || its.toArray.isEmpty) = true then _ else _) _ _ s
      rw [if_pos (by rw [hne]; decide)]
      have hf : H s.heap.objs.size = none := I.hok.fresh (Nat.le_refl _)
      have I5 : Inv X pins σ (upd H s.heap.objs.size (.frz { cls := .type "tuple", data := .seq #[] } (.tup []))) { s with heap := s.heap.push { cls := .type "tuple", data := .seq #[] } } :=
        I.laid (t' := s.toks) (o := .frz { cls := .type "tuple", data := .seq #[] } (.tup [])) (fun b ob q => Heap.get?_push_of_some _ q) (Nat.le_refl _) ⟨Heap.get?_push_size _ rfl, by decide +kernel, _, .nil, IsTup.new _ _⟩
      refine wpAny_bind (m := Builtin.Tuple.tupleExact _) (wpAny_newObj_type ?_ (by show (0 : Nat) ≤ _; exact Nat.zero_le _))
      refine wpAny_pure ⟨_, rfl, .ref _, _, I5, rfl, hQ _ _ (Same.fresh hf) ⟨_, upd_same, rfl, rfl⟩⟩
/-! ### methods of a tuple whose object is known, of a dict of whole numbers -/
theorem mt_tcountK {X : Cx} {K : PySem.W.Frag} (hK : X.K = K := by rfl) : MtR X "tuple.count" (rCntT K) := by subst hK; exact mt_tcount
theorem rd_bmF {r : V → List V → Hp → VK → Prop} {to : TE} {t : TA} {σ : L2.St} {H : Hp} {Q : VK} (h : to σ H fun x H1 => (∃ a xs, x = .ref a ∧ TupF H1 a xs) ∧ t σ H1 fun ys H2 => r x ys H2 Q) : tBMF r to t σ H Q := h
theorem pe_bm0T {X : Cx} {K : PySem.W.Frag} {T id : String} {name : Str} {r : V → List V → Hp → VK → Prop} {o : Expr} {to : TE} {apos cpos : Pos} (pa : PlainAttrs T) (slot : Slot T name id) (hty : typeOf (.builtin id) = pure (.type "method_descriptor")) (hm : MtR X id r) (ho : PE X o to)
    (hbase : attributeBase o name X.env (eval o X.env) = eval o X.env := by rfl) (hline : (apos.endLine == cpos.line) = true := by rfl) (hK : X.K = K := by rfl) : PE X (.Call (.Attribute o name apos) [] [] cpos) (tBM0 K T r to) := by
  subst hK; exact pe_bm0 pa slot hty hm ho hbase hline
theorem rd_tyD {K : PySem.W.Frag} {p : Addr} {H : Hp} {kvs : List (Key × V)} {R : Prop} (ha : H p = some (.dK kvs)) (h : R) : tyV K "dict" (.ref p) H ∧ R := ⟨.inr (.inr (.inl ⟨rfl, .inl ⟨kvs, ha⟩⟩)), h⟩
end KX

namespace K10
open PySem PySem.Spec PyProof.Rows L2 KX
def top (i : Nat) : Stmt :=
  PySem.Challenge.pw_handalong_k10_plans_and_their_faults.main.body.getD i (.Pass ⟨0, 0, 0, 0⟩)
theorem iteT' {A B : Prop} {c : Bool} (h : c = true) (a : A) : if c = true then A else B := by rw [if_pos h]; exact a
theorem iteF' {A B : Prop} {c : Bool} (h : c = false) (b : B) : if c = true then A else B := by rw [h]; exact iteF b
abbrev s_is_integer : Stmt := top 1
abbrev N_is_integer : List Str := ["value"]
theorem sc_is_integer : FnScope N_is_integer ["value"] (defScope s_is_integer) := ⟨rfl, rfl, rfl, by decide +kernel, rfl, by decide +kernel, by decide +kernel⟩
abbrev s_is_number : Stmt := top 2
abbrev N_is_number : List Str := ["value"]
theorem sc_is_number : FnScope N_is_number ["value"] (defScope s_is_number) := ⟨rfl, rfl, rfl, by decide +kernel, rfl, by decide +kernel, by decide +kernel⟩
abbrev s_is_tuple_of : Stmt := top 3
abbrev N_is_tuple_of : List Str := ["value", "length"]
theorem sc_is_tuple_of : FnScope N_is_tuple_of ["value", "length"] (defScope s_is_tuple_of) := ⟨rfl, rfl, rfl, by decide +kernel, rfl, by decide +kernel, by decide +kernel⟩
abbrev s_seen : Stmt := top 6
abbrev N_seen : List Str := ["view", "mode"]
theorem sc_seen : FnScope N_seen ["view", "mode"] (defScope s_seen) := ⟨rfl, rfl, rfl, by decide +kernel, rfl, by decide +kernel, by decide +kernel⟩
abbrev s_tally : Stmt := top 8
abbrev N_tally : List Str := ["row", "counts", "number"]
theorem sc_tally : FnScope N_tally ["row"] (defScope s_tally) := ⟨rfl, rfl, rfl, by decide +kernel, rfl, by decide +kernel, by decide +kernel⟩
abbrev s_tally_sum : Stmt := top 9
abbrev N_tally_sum : List Str := ["counted", "number", "many"]
theorem sc_tally_sum : FnScope N_tally_sum ["counted"] (defScope s_tally_sum) := ⟨rfl, rfl, rfl, by decide +kernel, rfl, by decide +kernel, by decide +kernel⟩
abbrev s_tally_length : Stmt := top 10
abbrev N_tally_length : List Str := ["counted", "_", "many"]
theorem sc_tally_length : FnScope N_tally_length ["counted"] (defScope s_tally_length) := ⟨rfl, rfl, rfl, by decide +kernel, rfl, by decide +kernel, by decide +kernel⟩
abbrev s_greatest_number : Stmt := top 11
abbrev N_greatest_number : List Str := ["counted", "number", "_"]
theorem sc_greatest_number : FnScope N_greatest_number ["counted"] (defScope s_greatest_number) := ⟨rfl, rfl, rfl, by decide +kernel, rfl, by decide +kernel, by decide +kernel⟩
abbrev s_split_sums : Stmt := top 12
abbrev N_split_sums : List Str := ["counted", "k", "top", "rest", "wanted", "number", "many", "taken"]
theorem sc_split_sums : FnScope N_split_sums ["counted", "k"] (defScope s_split_sums) := ⟨rfl, rfl, rfl, by decide +kernel, rfl, by decide +kernel, by decide +kernel⟩
abbrev s_tally_bars : Stmt := top 13
abbrev N_tally_bars : List Str := ["counted", "k", "top", "rest"]
theorem sc_tally_bars : FnScope N_tally_bars ["counted", "k"] (defScope s_tally_bars) := ⟨rfl, rfl, rfl, by decide +kernel, rfl, by decide +kernel, by decide +kernel⟩
abbrev s_tallies_bar : Stmt := top 14
abbrev N_tallies_bar : List Str := ["left", "right", "k", "number", "many"]
theorem sc_tallies_bar : FnScope N_tallies_bar ["left", "right", "k"] (defScope s_tallies_bar) := ⟨rfl, rfl, rfl, by decide +kernel, rfl, by decide +kernel, by decide +kernel⟩
abbrev s_tally_fault : Stmt := top 15
abbrev N_tally_fault : List Str := ["counted", "k"]
theorem sc_tally_fault : FnScope N_tally_fault ["counted"] (defScope s_tally_fault) := ⟨rfl, rfl, rfl, by decide +kernel, rfl, by decide +kernel, by decide +kernel⟩
abbrev s_tallies_fault : Stmt := top 16
abbrev N_tallies_fault : List Str := ["left", "right", "k"]
theorem sc_tallies_fault : FnScope N_tallies_fault ["left", "right"] (defScope s_tallies_fault) := ⟨rfl, rfl, rfl, by decide +kernel, rfl, by decide +kernel, by decide +kernel⟩
abbrev s_row_fault : Stmt := top 17
abbrev N_row_fault : List Str := ["row"]
theorem sc_row_fault : FnScope N_row_fault ["row"] (defScope s_row_fault) := ⟨rfl, rfl, rfl, by decide +kernel, rfl, by decide +kernel, by decide +kernel⟩
abbrev s_sides_fault : Stmt := top 18
abbrev N_sides_fault : List Str := ["left", "right"]
theorem sc_sides_fault : FnScope N_sides_fault ["left", "right"] (defScope s_sides_fault) := ⟨rfl, rfl, rfl, by decide +kernel, rfl, by decide +kernel, by decide +kernel⟩
abbrev s_wanted_row : Stmt := top 21
abbrev N_wanted_row : List Str := ["plan", "a", "b", "view"]
theorem sc_wanted_row : FnScope N_wanted_row ["plan", "a", "b"] (defScope s_wanted_row) := ⟨rfl, rfl, rfl, by decide +kernel, rfl, by decide +kernel, by decide +kernel⟩
abbrev s_kind_rows : Stmt := top 22
abbrev N_kind_rows : List Str := ["plan", "a", "b"]
theorem sc_kind_rows : FnScope N_kind_rows ["plan", "a", "b"] (defScope s_kind_rows) := ⟨rfl, rfl, rfl, by decide +kernel, rfl, by decide +kernel, by decide +kernel⟩
abbrev s_kind_fault : Stmt := top 23
abbrev N_kind_fault : List Str := ["plan", "a", "b", "left", "right"]
theorem sc_kind_fault : FnScope N_kind_fault ["plan", "a", "b"] (defScope s_kind_fault) := ⟨rfl, rfl, rfl, by decide +kernel, rfl, by decide +kernel, by decide +kernel⟩
abbrev s_plan_fault : Stmt := top 24
abbrev N_plan_fault : List Str := ["plan", "a", "b", "fault"]
theorem sc_plan_fault : FnScope N_plan_fault ["plan"] (defScope s_plan_fault) := ⟨rfl, rfl, rfl, by decide +kernel, rfl, by decide +kernel, by decide +kernel⟩
abbrev s_is_plan_fault : Stmt := top 25
abbrev N_is_plan_fault : List Str := ["plan", "value", "a", "b", "k", "left", "right", "entry"]
theorem sc_is_plan_fault : FnScope N_is_plan_fault ["plan", "value"] (defScope s_is_plan_fault) := ⟨rfl, rfl, rfl, by decide +kernel, rfl, by decide +kernel, by decide +kernel⟩
abbrev s_rows_bar : Stmt := top 26
abbrev N_rows_bar : List Str := ["alike", "left", "right", "k"]
theorem sc_rows_bar : FnScope N_rows_bar ["alike", "left", "right", "k"] (defScope s_rows_bar) := ⟨rfl, rfl, rfl, by decide +kernel, rfl, by decide +kernel, by decide +kernel⟩
abbrev s__law_draw : Stmt := top 28
abbrev N__law_draw : List Str := ["_law_script", "_law_salt", "_law_cells", "_law_blend", "_law_cell"]
theorem sc__law_draw : FnScope N__law_draw ["_law_script", "_law_salt"] (defScope s__law_draw) := ⟨rfl, rfl, rfl, by decide +kernel, rfl, by decide +kernel, by decide +kernel⟩
abbrev s__law_any : Stmt := top 29
abbrev N__law_any : List Str := ["_law_deal", "_law_bound", "_law_rest"]
theorem sc__law_any : FnScope N__law_any ["_law_deal", "_law_bound"] (defScope s__law_any) := ⟨rfl, rfl, rfl, by decide +kernel, rfl, by decide +kernel, by decide +kernel⟩
abbrev s__law_of : Stmt := top 30
abbrev N__law_of : List Str := ["_law_deal", "_law_some"]
theorem sc__law_of : FnScope N__law_of ["_law_deal", "_law_some"] (defScope s__law_of) := ⟨rfl, rfl, rfl, by decide +kernel, rfl, by decide +kernel, by decide +kernel⟩
abbrev s__law_links : Stmt := top 31
abbrev N__law_links : List Str := ["_law_deal", "_law_many", "_law_form", "_law_links_here", "_law_most", "_law_steps", "_law_one", "_law_step", "_law_other_here", "_law_met", "_law_site", "_law_link"]
theorem sc__law_links : FnScope N__law_links ["_law_deal", "_law_many"] (defScope s__law_links) := ⟨rfl, rfl, rfl, by decide +kernel, rfl, by decide +kernel, by decide +kernel⟩
abbrev s__law_network : Stmt := top 32
abbrev N__law_network : List Str := ["_law_deal", "_law_kinds", "_law_many", "_law_start", "_law_turn", "_law_modes", "_law_at"]
theorem sc__law_network : FnScope N__law_network ["_law_deal", "_law_kinds", "_law_many"] (defScope s__law_network) := ⟨rfl, rfl, rfl, by decide +kernel, rfl, by decide +kernel, by decide +kernel⟩
abbrev s__law_sight : Stmt := top 33
abbrev N__law_sight : List Str := ["_law_modes", "_law_links_here", "_law_near", "_law_i", "_law_j", "_law_mode", "_law_site"]
theorem sc__law_sight : FnScope N__law_sight ["_law_modes", "_law_links_here"] (defScope s__law_sight) := ⟨rfl, rfl, rfl, by decide +kernel, rfl, by decide +kernel, by decide +kernel⟩
abbrev s__law_other : Stmt := top 34
abbrev N__law_other : List Str := ["_law_deal", "_law_kinds", "_law_degree", "_law_many", "_law_turn"]
theorem sc__law_other : FnScope N__law_other ["_law_deal", "_law_kinds", "_law_degree"] (defScope s__law_other) := ⟨rfl, rfl, rfl, by decide +kernel, rfl, by decide +kernel, by decide +kernel⟩
abbrev s__law_tangle : Stmt := top 35
abbrev N__law_tangle : List Str := ["_law_deal", "_law_kinds", "_law_many", "_law_modes", "_law_met", "_law_links_here", "_law_turn", "_law_i", "_law_j", "_law_site"]
theorem sc__law_tangle : FnScope N__law_tangle ["_law_deal", "_law_kinds", "_law_many"] (defScope s__law_tangle) := ⟨rfl, rfl, rfl, by decide +kernel, rfl, by decide +kernel, by decide +kernel⟩
abbrev s__law_plan : Stmt := top 36
abbrev N__law_plan : List Str := ["_law_deal", "_law_most", "_law_kinds", "_law_form", "_law_many", "_law_modes", "_law_links_here", "_law_plan_here", "_law_at", "_law_cut", "_law_turn"]
theorem sc__law_plan : FnScope N__law_plan ["_law_deal", "_law_most"] (defScope s__law_plan) := ⟨rfl, rfl, rfl, by decide +kernel, rfl, by decide +kernel, by decide +kernel⟩
abbrev s__law_row_due : Stmt := top 37
abbrev N__law_row_due : List Str := ["_law_row", "_law_ranked", "_law_k", "_law_number"]
theorem sc__law_row_due : FnScope N__law_row_due ["_law_row"] (defScope s__law_row_due) := ⟨rfl, rfl, rfl, by decide +kernel, rfl, by decide +kernel, by decide +kernel⟩
abbrev s__law_sides_due : Stmt := top 38
abbrev N__law_sides_due : List Str := ["_law_left", "_law_right_here", "_law_ranked", "_law_k", "_law_number"]
theorem sc__law_sides_due : FnScope N__law_sides_due ["_law_left", "_law_right_here"] (defScope s__law_sides_due) := ⟨rfl, rfl, rfl, by decide +kernel, rfl, by decide +kernel, by decide +kernel⟩
abbrev s__law_rows : Stmt := top 39
abbrev N__law_rows : List Str := ["_law_plan_here", "_law_a", "_law_b", "_law_left", "_law_view", "_law_one"]
theorem sc__law_rows : FnScope N__law_rows ["_law_plan_here", "_law_a", "_law_b"] (defScope s__law_rows) := ⟨rfl, rfl, rfl, by decide +kernel, rfl, by decide +kernel, by decide +kernel⟩
abbrev s__law_fault : Stmt := top 40
abbrev N__law_fault : List Str := ["_law_plan_here", "_law_a", "_law_b", "_law_left", "_law_right_here", "_law_k"]
theorem sc__law_fault : FnScope N__law_fault ["_law_plan_here"] (defScope s__law_fault) := ⟨rfl, rfl, rfl, by decide +kernel, rfl, by decide +kernel, by decide +kernel⟩
abbrev s__law_bars : Stmt := top 41
abbrev N__law_bars : List Str := ["_law_left", "_law_right_here", "_law_is_one", "_law_k", "_law_ranked", "_law_number"]
theorem sc__law_bars : FnScope N__law_bars ["_law_left", "_law_right_here", "_law_is_one", "_law_k"] (defScope s__law_bars) := ⟨rfl, rfl, rfl, by decide +kernel, rfl, by decide +kernel, by decide +kernel⟩
abbrev s__law_bent : Stmt := top 42
abbrev N__law_bent : List Str := ["_law_deal", "_law_told", "_law_a", "_law_b", "_law_k"]
theorem sc__law_bent : FnScope N__law_bent ["_law_deal", "_law_told"] (defScope s__law_bent) := ⟨rfl, rfl, rfl, by decide +kernel, rfl, by decide +kernel, by decide +kernel⟩
abbrev s__law_right : Stmt := top 43
abbrev N__law_right : List Str := ["_law_deal", "_law_plan_here", "_law_given", "_law_due", "_law_a", "_law_b", "_law_left", "_law_right_here", "_law_k", "_law_value", "_law_back"]
theorem sc__law_right : FnScope N__law_right ["_law_deal", "_law_plan_here", "_law_given"] (defScope s__law_right) := ⟨rfl, rfl, rfl, by decide +kernel, rfl, by decide +kernel, by decide +kernel⟩
abbrev s_law : Stmt := top 44
abbrev N_law : List Str := ["_law_script", "_law_deal", "_law_plan_here", "_law_mode", "_law_degree", "_law_many", "_law_due"]
theorem sc_law : FnScope N_law ["_law_script"] (defScope s_law) := ⟨rfl, rfl, rfl, by decide +kernel, rfl, by decide +kernel, by decide +kernel⟩
/-- what the top must have -/
structure TX (K : PySem.W.Frag) (mg : Str → Option Value) where
  f_is_integer : Addr
  d_is_integer : FuncData
  F_is_integer : Fun K "is_integer" "is_integer" s_is_integer f_is_integer d_is_integer
  m_is_integer : mg "is_integer" = some (.ref f_is_integer)
  f_is_number : Addr
  d_is_number : FuncData
  F_is_number : Fun K "is_number" "is_number" s_is_number f_is_number d_is_number
  m_is_number : mg "is_number" = some (.ref f_is_number)
  f_is_tuple_of : Addr
  d_is_tuple_of : FuncData
  F_is_tuple_of : Fun K "is_tuple_of" "is_tuple_of" s_is_tuple_of f_is_tuple_of d_is_tuple_of
  m_is_tuple_of : mg "is_tuple_of" = some (.ref f_is_tuple_of)
  f_seen : Addr
  d_seen : FuncData
  F_seen : Fun K "seen" "seen" s_seen f_seen d_seen
  m_seen : mg "seen" = some (.ref f_seen)
  f_tally : Addr
  d_tally : FuncData
  F_tally : Fun K "tally" "tally" s_tally f_tally d_tally
  m_tally : mg "tally" = some (.ref f_tally)
  f_tally_sum : Addr
  d_tally_sum : FuncData
  F_tally_sum : Fun K "tally_sum" "tally_sum" s_tally_sum f_tally_sum d_tally_sum
  m_tally_sum : mg "tally_sum" = some (.ref f_tally_sum)
  f_tally_length : Addr
  d_tally_length : FuncData
  F_tally_length : Fun K "tally_length" "tally_length" s_tally_length f_tally_length d_tally_length
  m_tally_length : mg "tally_length" = some (.ref f_tally_length)
  f_greatest_number : Addr
  d_greatest_number : FuncData
  F_greatest_number : Fun K "greatest_number" "greatest_number" s_greatest_number f_greatest_number d_greatest_number
  m_greatest_number : mg "greatest_number" = some (.ref f_greatest_number)
  f_split_sums : Addr
  d_split_sums : FuncData
  F_split_sums : Fun K "split_sums" "split_sums" s_split_sums f_split_sums d_split_sums
  m_split_sums : mg "split_sums" = some (.ref f_split_sums)
  f_tally_bars : Addr
  d_tally_bars : FuncData
  F_tally_bars : Fun K "tally_bars" "tally_bars" s_tally_bars f_tally_bars d_tally_bars
  m_tally_bars : mg "tally_bars" = some (.ref f_tally_bars)
  f_tallies_bar : Addr
  d_tallies_bar : FuncData
  F_tallies_bar : Fun K "tallies_bar" "tallies_bar" s_tallies_bar f_tallies_bar d_tallies_bar
  m_tallies_bar : mg "tallies_bar" = some (.ref f_tallies_bar)
  f_tally_fault : Addr
  d_tally_fault : FuncData
  F_tally_fault : Fun K "tally_fault" "tally_fault" s_tally_fault f_tally_fault d_tally_fault
  m_tally_fault : mg "tally_fault" = some (.ref f_tally_fault)
  f_tallies_fault : Addr
  d_tallies_fault : FuncData
  F_tallies_fault : Fun K "tallies_fault" "tallies_fault" s_tallies_fault f_tallies_fault d_tallies_fault
  m_tallies_fault : mg "tallies_fault" = some (.ref f_tallies_fault)
  f_row_fault : Addr
  d_row_fault : FuncData
  F_row_fault : Fun K "row_fault" "row_fault" s_row_fault f_row_fault d_row_fault
  m_row_fault : mg "row_fault" = some (.ref f_row_fault)
  f_sides_fault : Addr
  d_sides_fault : FuncData
  F_sides_fault : Fun K "sides_fault" "sides_fault" s_sides_fault f_sides_fault d_sides_fault
  m_sides_fault : mg "sides_fault" = some (.ref f_sides_fault)
  f_wanted_row : Addr
  d_wanted_row : FuncData
  F_wanted_row : Fun K "wanted_row" "wanted_row" s_wanted_row f_wanted_row d_wanted_row
  m_wanted_row : mg "wanted_row" = some (.ref f_wanted_row)
  f_kind_rows : Addr
  d_kind_rows : FuncData
  F_kind_rows : Fun K "kind_rows" "kind_rows" s_kind_rows f_kind_rows d_kind_rows
  m_kind_rows : mg "kind_rows" = some (.ref f_kind_rows)
  f_kind_fault : Addr
  d_kind_fault : FuncData
  F_kind_fault : Fun K "kind_fault" "kind_fault" s_kind_fault f_kind_fault d_kind_fault
  m_kind_fault : mg "kind_fault" = some (.ref f_kind_fault)
  f_plan_fault : Addr
  d_plan_fault : FuncData
  F_plan_fault : Fun K "plan_fault" "plan_fault" s_plan_fault f_plan_fault d_plan_fault
  m_plan_fault : mg "plan_fault" = some (.ref f_plan_fault)
  f_is_plan_fault : Addr
  d_is_plan_fault : FuncData
  F_is_plan_fault : Fun K "is_plan_fault" "is_plan_fault" s_is_plan_fault f_is_plan_fault d_is_plan_fault
  m_is_plan_fault : mg "is_plan_fault" = some (.ref f_is_plan_fault)
  f_rows_bar : Addr
  d_rows_bar : FuncData
  F_rows_bar : Fun K "rows_bar" "rows_bar" s_rows_bar f_rows_bar d_rows_bar
  m_rows_bar : mg "rows_bar" = some (.ref f_rows_bar)
  f__law_draw : Addr
  d__law_draw : FuncData
  F__law_draw : Fun K "_law_draw" "_law_draw" s__law_draw f__law_draw d__law_draw
  m__law_draw : mg "_law_draw" = some (.ref f__law_draw)
  f__law_any : Addr
  d__law_any : FuncData
  F__law_any : Fun K "_law_any" "_law_any" s__law_any f__law_any d__law_any
  m__law_any : mg "_law_any" = some (.ref f__law_any)
  f__law_of : Addr
  d__law_of : FuncData
  F__law_of : Fun K "_law_of" "_law_of" s__law_of f__law_of d__law_of
  m__law_of : mg "_law_of" = some (.ref f__law_of)
  f__law_links : Addr
  d__law_links : FuncData
  F__law_links : Fun K "_law_links" "_law_links" s__law_links f__law_links d__law_links
  m__law_links : mg "_law_links" = some (.ref f__law_links)
  f__law_network : Addr
  d__law_network : FuncData
  F__law_network : Fun K "_law_network" "_law_network" s__law_network f__law_network d__law_network
  m__law_network : mg "_law_network" = some (.ref f__law_network)
  f__law_sight : Addr
  d__law_sight : FuncData
  F__law_sight : Fun K "_law_sight" "_law_sight" s__law_sight f__law_sight d__law_sight
  m__law_sight : mg "_law_sight" = some (.ref f__law_sight)
  f__law_other : Addr
  d__law_other : FuncData
  F__law_other : Fun K "_law_other" "_law_other" s__law_other f__law_other d__law_other
  m__law_other : mg "_law_other" = some (.ref f__law_other)
  f__law_tangle : Addr
  d__law_tangle : FuncData
  F__law_tangle : Fun K "_law_tangle" "_law_tangle" s__law_tangle f__law_tangle d__law_tangle
  m__law_tangle : mg "_law_tangle" = some (.ref f__law_tangle)
  f__law_plan : Addr
  d__law_plan : FuncData
  F__law_plan : Fun K "_law_plan" "_law_plan" s__law_plan f__law_plan d__law_plan
  m__law_plan : mg "_law_plan" = some (.ref f__law_plan)
  f__law_row_due : Addr
  d__law_row_due : FuncData
  F__law_row_due : Fun K "_law_row_due" "_law_row_due" s__law_row_due f__law_row_due d__law_row_due
  m__law_row_due : mg "_law_row_due" = some (.ref f__law_row_due)
  f__law_sides_due : Addr
  d__law_sides_due : FuncData
  F__law_sides_due : Fun K "_law_sides_due" "_law_sides_due" s__law_sides_due f__law_sides_due d__law_sides_due
  m__law_sides_due : mg "_law_sides_due" = some (.ref f__law_sides_due)
  f__law_rows : Addr
  d__law_rows : FuncData
  F__law_rows : Fun K "_law_rows" "_law_rows" s__law_rows f__law_rows d__law_rows
  m__law_rows : mg "_law_rows" = some (.ref f__law_rows)
  f__law_fault : Addr
  d__law_fault : FuncData
  F__law_fault : Fun K "_law_fault" "_law_fault" s__law_fault f__law_fault d__law_fault
  m__law_fault : mg "_law_fault" = some (.ref f__law_fault)
  f__law_bars : Addr
  d__law_bars : FuncData
  F__law_bars : Fun K "_law_bars" "_law_bars" s__law_bars f__law_bars d__law_bars
  m__law_bars : mg "_law_bars" = some (.ref f__law_bars)
  f__law_bent : Addr
  d__law_bent : FuncData
  F__law_bent : Fun K "_law_bent" "_law_bent" s__law_bent f__law_bent d__law_bent
  m__law_bent : mg "_law_bent" = some (.ref f__law_bent)
  f__law_right : Addr
  d__law_right : FuncData
  F__law_right : Fun K "_law_right" "_law_right" s__law_right f__law_right d__law_right
  m__law_right : mg "_law_right" = some (.ref f__law_right)
  f_law : Addr
  d_law : FuncData
  F_law : Fun K "law" "law" s_law f_law d_law
  m_law : mg "law" = some (.ref f_law)
  n_int : mg "int" = none
  n_bool : mg "bool" = none
  n_abs : mg "abs" = none
  n_len : mg "len" = none
  n_min : mg "min" = none
  n_max : mg "max" = none
  n_sorted : mg "sorted" = none
  n_tuple : mg "tuple" = none
  n_list : mg "list" = none
  n_range : mg "range" = none
  n_repr : mg "repr" = none
  n_isinstance : mg "isinstance" = none
  n_enumerate : mg "enumerate" = none
  n_all : mg "all" = none
  n_sum : mg "sum" = none
  n_str : mg "str" = none
  t_MOST_MODES : Tok
  m_MOST_MODES : mg "MOST_MODES" = some (.int 4 t_MOST_MODES)
  c_KINDS : Addr
  m_KINDS : mg "KINDS" = some (.ref c_KINDS)
  S_KINDS : ∃ as : List Addr, (∀ H, SqT K H c_KINDS (as.map V.ref)) ∧ Paired (fun a (e : Int × Int) => ∀ H, SqT K H a [.int e.1, .int e.2]) as [(0, 0), (0, 1), (0, 2), (0, 3), (1, 1), (1, 2), (1, 3), (2, 2), (2, 3), (3, 3)]
section
variable {K : PySem.W.Frag} {mg : Str → Option Value} (T : TX K mg)
theorem TX.b_is_integer : Binds K T.d_is_integer ["value"] [] := T.F_is_integer.binds fun _ _ _ _ _ _ us hl => match us, hl with | [_], _ => rfl
theorem TX.b_is_number : Binds K T.d_is_number ["value"] [] := T.F_is_number.binds fun _ _ _ _ _ _ us hl => match us, hl with | [_], _ => rfl
theorem TX.b_is_tuple_of : Binds K T.d_is_tuple_of ["value", "length"] [] := T.F_is_tuple_of.binds fun _ _ _ _ _ _ us hl => match us, hl with | [_, _], _ => rfl
theorem TX.b_seen : Binds K T.d_seen ["view", "mode"] [] := T.F_seen.binds fun _ _ _ _ _ _ us hl => match us, hl with | [_, _], _ => rfl
theorem TX.b_tally : Binds K T.d_tally ["row"] [] := T.F_tally.binds fun _ _ _ _ _ _ us hl => match us, hl with | [_], _ => rfl
theorem TX.b_tally_sum : Binds K T.d_tally_sum ["counted"] [] := T.F_tally_sum.binds fun _ _ _ _ _ _ us hl => match us, hl with | [_], _ => rfl
theorem TX.b_tally_length : Binds K T.d_tally_length ["counted"] [] := T.F_tally_length.binds fun _ _ _ _ _ _ us hl => match us, hl with | [_], _ => rfl
theorem TX.b_greatest_number : Binds K T.d_greatest_number ["counted"] [] := T.F_greatest_number.binds fun _ _ _ _ _ _ us hl => match us, hl with | [_], _ => rfl
theorem TX.b_split_sums : Binds K T.d_split_sums ["counted", "k"] [] := T.F_split_sums.binds fun _ _ _ _ _ _ us hl => match us, hl with | [_, _], _ => rfl
theorem TX.b_tally_bars : Binds K T.d_tally_bars ["counted", "k"] [] := T.F_tally_bars.binds fun _ _ _ _ _ _ us hl => match us, hl with | [_, _], _ => rfl
theorem TX.b_tallies_bar : Binds K T.d_tallies_bar ["left", "right", "k"] [] := T.F_tallies_bar.binds fun _ _ _ _ _ _ us hl => match us, hl with | [_, _, _], _ => rfl
theorem TX.b_tally_fault : Binds K T.d_tally_fault ["counted"] [] := T.F_tally_fault.binds fun _ _ _ _ _ _ us hl => match us, hl with | [_], _ => rfl
theorem TX.b_tallies_fault : Binds K T.d_tallies_fault ["left", "right"] [] := T.F_tallies_fault.binds fun _ _ _ _ _ _ us hl => match us, hl with | [_, _], _ => rfl
theorem TX.b_row_fault : Binds K T.d_row_fault ["row"] [] := T.F_row_fault.binds fun _ _ _ _ _ _ us hl => match us, hl with | [_], _ => rfl
theorem TX.b_sides_fault : Binds K T.d_sides_fault ["left", "right"] [] := T.F_sides_fault.binds fun _ _ _ _ _ _ us hl => match us, hl with | [_, _], _ => rfl
theorem TX.b_wanted_row : Binds K T.d_wanted_row ["plan", "a", "b"] [] := T.F_wanted_row.binds fun _ _ _ _ _ _ us hl => match us, hl with | [_, _, _], _ => rfl
theorem TX.b_kind_rows : Binds K T.d_kind_rows ["plan", "a", "b"] [] := T.F_kind_rows.binds fun _ _ _ _ _ _ us hl => match us, hl with | [_, _, _], _ => rfl
theorem TX.b_kind_fault : Binds K T.d_kind_fault ["plan", "a", "b"] [] := T.F_kind_fault.binds fun _ _ _ _ _ _ us hl => match us, hl with | [_, _, _], _ => rfl
theorem TX.b_plan_fault : Binds K T.d_plan_fault ["plan"] [] := T.F_plan_fault.binds fun _ _ _ _ _ _ us hl => match us, hl with | [_], _ => rfl
theorem TX.b_is_plan_fault : Binds K T.d_is_plan_fault ["plan", "value"] [] := T.F_is_plan_fault.binds fun _ _ _ _ _ _ us hl => match us, hl with | [_, _], _ => rfl
theorem TX.b_rows_bar : Binds K T.d_rows_bar ["alike", "left", "right", "k"] [] := T.F_rows_bar.binds fun _ _ _ _ _ _ us hl => match us, hl with | [_, _, _, _], _ => rfl
theorem TX.b__law_draw : Binds K T.d__law_draw ["_law_script", "_law_salt"] [] := T.F__law_draw.binds fun _ _ _ _ _ _ us hl => match us, hl with | [_, _], _ => rfl
theorem TX.b__law_any : Binds K T.d__law_any ["_law_deal", "_law_bound"] [] := T.F__law_any.binds fun _ _ _ _ _ _ us hl => match us, hl with | [_, _], _ => rfl
theorem TX.b__law_of : Binds K T.d__law_of ["_law_deal", "_law_some"] [] := T.F__law_of.binds fun _ _ _ _ _ _ us hl => match us, hl with | [_, _], _ => rfl
theorem TX.b__law_links : Binds K T.d__law_links ["_law_deal", "_law_many"] [] := T.F__law_links.binds fun _ _ _ _ _ _ us hl => match us, hl with | [_, _], _ => rfl
theorem TX.b__law_network : Binds K T.d__law_network ["_law_deal", "_law_kinds", "_law_many"] [] := T.F__law_network.binds fun _ _ _ _ _ _ us hl => match us, hl with | [_, _, _], _ => rfl
theorem TX.b__law_sight : Binds K T.d__law_sight ["_law_modes", "_law_links_here"] [] := T.F__law_sight.binds fun _ _ _ _ _ _ us hl => match us, hl with | [_, _], _ => rfl
theorem TX.b__law_other : Binds K T.d__law_other ["_law_deal", "_law_kinds", "_law_degree"] [] := T.F__law_other.binds fun _ _ _ _ _ _ us hl => match us, hl with | [_, _, _], _ => rfl
theorem TX.b__law_tangle : Binds K T.d__law_tangle ["_law_deal", "_law_kinds", "_law_many"] [] := T.F__law_tangle.binds fun _ _ _ _ _ _ us hl => match us, hl with | [_, _, _], _ => rfl
theorem TX.b__law_plan : Binds K T.d__law_plan ["_law_deal", "_law_most"] [] := T.F__law_plan.binds fun _ _ _ _ _ _ us hl => match us, hl with | [_, _], _ => rfl
theorem TX.b__law_row_due : Binds K T.d__law_row_due ["_law_row"] [] := T.F__law_row_due.binds fun _ _ _ _ _ _ us hl => match us, hl with | [_], _ => rfl
theorem TX.b__law_sides_due : Binds K T.d__law_sides_due ["_law_left", "_law_right_here"] [] := T.F__law_sides_due.binds fun _ _ _ _ _ _ us hl => match us, hl with | [_, _], _ => rfl
theorem TX.b__law_rows : Binds K T.d__law_rows ["_law_plan_here", "_law_a", "_law_b"] [] := T.F__law_rows.binds fun _ _ _ _ _ _ us hl => match us, hl with | [_, _, _], _ => rfl
theorem TX.b__law_fault : Binds K T.d__law_fault ["_law_plan_here"] [] := T.F__law_fault.binds fun _ _ _ _ _ _ us hl => match us, hl with | [_], _ => rfl
theorem TX.b__law_bars : Binds K T.d__law_bars ["_law_left", "_law_right_here", "_law_is_one", "_law_k"] [] := T.F__law_bars.binds fun _ _ _ _ _ _ us hl => match us, hl with | [_, _, _, _], _ => rfl
theorem TX.b__law_bent : Binds K T.d__law_bent ["_law_deal", "_law_told"] [] := T.F__law_bent.binds fun _ _ _ _ _ _ us hl => match us, hl with | [_, _], _ => rfl
theorem TX.b__law_right : Binds K T.d__law_right ["_law_deal", "_law_plan_here", "_law_given"] [] := T.F__law_right.binds fun _ _ _ _ _ _ us hl => match us, hl with | [_, _, _], _ => rfl
theorem TX.b_law : Binds K T.d_law ["_law_script"] [] := T.F_law.binds fun _ _ _ _ _ _ us hl => match us, hl with | [_], _ => rfl
end
/-! ### the deal -/
structure DealAt (H : Hp) (p q : Addr) (ns : List Int) (b : Int) : Prop where
  hp : H p = some (.lst [.ref q, .int b])
  hq : H q = some (.lst (ns.map V.int))
  ne : p ≠ q
  nn : ∀ n ∈ ns, 0 ≤ n
  len : ns.length ≤ 48
  b0 : 0 ≤ b
  b1 : b < 2147483647
def Deal (H : Hp) (p q : Addr) : Prop := ∃ ns b, DealAt H p q ns b
/-- all but the deal's two lists stays -/
def Fix (p q : Addr) (H H' : Hp) : Prop := ∀ a o, a ≠ p → a ≠ q → H a = some o → H' a = some o
theorem Fix.refl (p q : Addr) (H : Hp) : Fix p q H H := fun _ _ _ _ h => h
theorem Fix.trans {p q : Addr} {H H1 H2 : Hp} (a : Fix p q H H1) (b : Fix p q H1 H2) : Fix p q H H2 := fun c o h1 h2 h => b c o h1 h2 (a c o h1 h2 h)
theorem Fix.same {p q : Addr} {H H' : Hp} (s : Same H H') : Fix p q H H' := fun c o _ _ h => s c o h
theorem Fix.new {p q a : Addr} {H : Hp} {o : HO} (n : H a = none) : Fix p q H (upd H a o) := fun c u _ _ h => by
  rw [upd_ne (fun z => by rw [z, n] at h; cases h)]; exact h
theorem Fix.p {p q : Addr} {H : Hp} {o : HO} : Fix p q H (upd H p o) := fun c u h1 _ h => by rw [upd_ne h1]; exact h
theorem Fix.q {p q : Addr} {H : Hp} {o : HO} : Fix p q H (upd H q o) := fun c u _ h2 h => by rw [upd_ne h2]; exact h
theorem DealAt.new {H : Hp} {p q a : Addr} {ns : List Int} {b : Int} {o : HO} (d : DealAt H p q ns b) (n : H a = none) : DealAt (upd H a o) p q ns b :=
  ⟨by rw [upd_ne (fun z => by have := d.hp; rw [z, n] at this; cases this)]; exact d.hp,
   by rw [upd_ne (fun z => by have := d.hq; rw [z, n] at this; cases this)]; exact d.hq, d.ne, d.nn, d.len, d.b0, d.b1⟩
theorem DealAt.toq {H : Hp} {p q : Addr} {ns ms : List Int} {b : Int} (d : DealAt H p q ns b) (hn : ∀ n ∈ ms, 0 ≤ n) (hl : ms.length ≤ 48) :
    DealAt (upd H q (.lst (ms.map V.int))) p q ms b :=
  ⟨by rw [upd_ne d.ne]; exact d.hp, upd_same, d.ne, hn, hl, d.b0, d.b1⟩
theorem DealAt.top {H : Hp} {p q : Addr} {ns : List Int} {b c : Int} (d : DealAt H p q ns b) (h0 : 0 ≤ c) (h1 : c < 2147483647) :
    DealAt (upd H p (.lst [.ref q, .int c])) p q ns c :=
  ⟨upd_same, by rw [upd_ne (Ne.symm d.ne)]; exact d.hq, d.ne, d.nn, d.len, h0, h1⟩
theorem Deal.same {H H' : Hp} {p q : Addr} (d : Deal H p q) (s : Same H H') : Deal H' p q := by
  obtain ⟨ns, b, d⟩ := d
  exact ⟨ns, b, s _ _ d.hp, s _ _ d.hq, d.ne, d.nn, d.len, d.b0, d.b1⟩
def spAny : Sp := fun vs H Q _ => ∃ (p q : Addr) (m : Int), vs = [.ref p, .int m] ∧ Deal H p q ∧ 0 < m ∧ m < 1073741824 ∧
  ∀ H' i, Deal H' p q → Fix p q H H' → 0 ≤ i → i < m → Q (.int i) H'
def spOf (K : PySem.W.Frag) : Sp := fun vs H Q _ => ∃ (p q a : Addr) (xs : List V), vs = [.ref p, .ref a] ∧ Deal H p q ∧ a ≠ p ∧ a ≠ q ∧ H a = some (.lst xs) ∧
  0 < xs.length ∧ xs.length < 1000 ∧ ∀ H' x, x ∈ xs → Deal H' p q → Fix p q H H' → Q x H'
/-! data of a list of ints -/
theorem dpAll_ints (K : PySem.W.Frag) (H : Hp) : ∀ ns : List Int, DpAll K H (ns.map V.int) (ns.map PyData.int)
  | [] => .nil
  | n :: ns => .cons (.int n) (dpAll_ints K H ns)
theorem dp_ints {K : PySem.W.Frag} {H : Hp} {a : Addr} {ns : List Int} (h : H a = some (.lst (ns.map V.int))) : Dp K H (.ref a) (.list (ns.map PyData.int)) :=
  .lst (SqL.of h) (dpAll_ints K H ns)
theorem lay_ints : ∀ ns : List Int, PyData.canLayAll0 (ns.map PyData.int) = true
  | [] => rfl
  | n :: ns => by
    show (PyData.canLay0 (.int n) && PyData.canLayAll0 (ns.map PyData.int)) = true
    rw [lay_ints ns]; rfl
theorem dep_ints : ∀ ns : List Int, PyData.depthAll (ns.map PyData.int) ≤ 1
  | [] => by decide
  | n :: ns => by
    have h := dep_ints ns
    show max (PyData.depth (.int n)) (PyData.depthAll (ns.map PyData.int)) ≤ 1
    have h1 : PyData.depth (.int n) = 0 := rfl
    rw [h1]; omega
theorem sh_ints (ns : List Int) : SeqAt.shaped (.list (ns.map PyData.int)) = true := by
  have h := dep_ints ns
  have h1 : PyData.depth (.list (ns.map PyData.int)) = PyData.depthAll (ns.map PyData.int) + 1 := rfl
  unfold SeqAt.shaped
  have h2 : PyData.canLay0 (.list (ns.map PyData.int)) = PyData.canLayAll0 (ns.map PyData.int) := rfl
  rw [h2, lay_ints, h1, Bool.true_and]
  exact decide_eq_true (by omega)
theorem ne_nil_ints (ns : List Int) : PyData.eqv (.list (ns.map PyData.int)) (.list ([] : List PyData)) = decide (ns = []) := by
  cases ns <;> rfl
section
variable {P : Program} {w : World} {K : PySem.W.Frag} {mg : Str → Option Value} {base : Heap}
theorem ok_any {f : Addr} {fd : FuncData} (F : Fun K "_law_any" "_law_any" s__law_any f fd) (gi : mg "int" = none) : FnOk P w K mg base CX0 1 f fd ["_law_deal", "_law_bound"] spAny := by
  refine F.ok sc__law_any (fun vs H Q E h => ?_) fun cdv A outer s H vs Q E hr h => ⟨_, 
    pss_cons (ps_while PassesOwn.never (PW.pt (pw_and (pt_cmpR (op_neD hr.units) (pe_ix ix_list (pv 0) pe_int (fun _ _ => rfl)) (pe_lst pa_nil) (nomark _))
        (pw_and1 (pt_cmpR op_eq (pe_ix ix_list (pe_ix ix_list (pv 0) pe_int (fun _ _ => rfl)) (pe_un un_neg pe_int) (fun _ _ => rfl)) pe_int (nomark _)))))
      (pss_one (ps_expr (pe_bm0 PySem.F.plainAttrs_list PySem.F.slot_list_pop PySem.F.type_list_pop mt_pop (pe_ix ix_list (pv 0) pe_int (fun _ _ => rfl))))))
    (pss_cons (ps_if (pt_cmpR (op_neD hr.units) (pe_ix ix_list (pv 0) pe_int (fun _ _ => rfl)) (pe_lst pa_nil) (nomark _))
      (pss_cons (ps_set (i := 2) sc__law_any.nd rfl (.inl rfl) (pe_callTy call_int1 (by rfl) gi (by decide +kernel)
          (pa_cons (pe_bm0 PySem.F.plainAttrs_list PySem.F.slot_list_pop PySem.F.type_list_pop mt_pop (pe_ix ix_list (pv 0) pe_int (fun _ _ => rfl))) pa_nil)))
        (pss_cons (ps_expr (pe_bm PySem.F.plainAttrs_list PySem.F.slot_list_append PySem.F.type_list_append mt_append (pe_ix ix_list (pv 0) pe_int (fun _ _ => rfl))
            (pa_cons (pe_op op_fdiv (pv 2) (pv 1)) pa_nil)))
          (pss_one (ps_ret (pe_op op_mod (pv 2) (pv 1)))))) pss_nil)
    (pss_cons (ps_asg (pe_op op_mod (pe_callTy call_int1 (by rfl) gi (by decide +kernel) (pa_cons (pe_op op_add (pe_op op_mul (pe_ix ix_list (pv 0) pe_int (fun _ _ => rfl)) pe_int) pe_int) pa_nil)) pe_int)
        (pg_sub (pv 0) pe_int set_list))
    (pss_one (ps_ret (pe_op op_mod (pe_callTy call_int1 (by rfl) gi (by decide +kernel) (pa_cons (pe_op op_fdiv (pe_ix ix_list (pv 0) pe_int (fun _ _ => rfl)) pe_int) pa_nil)) (pv 1)))))), ?_⟩
  · obtain ⟨p, q, m, rfl, _⟩ := h
    rfl
  · obtain ⟨p, q, m, rfl, ⟨ns, b, d⟩, hm0, hm1, hQ⟩ := h
    refine ⟨fun n σ H' => σ = L2.start ["_law_deal", "_law_bound", "_law_rest"] [.ref p, .int m] ∧ ∃ ns b, DealAt H' p q ns b ∧ Fix p q H H' ∧ n = ns.length, ⟨_, rfl, ns, b, d, Fix.refl _ _ _, rfl⟩, ?_⟩
    rintro n σ H' ⟨rfl, ns, b, d, fx, rfl⟩
    have d1 : ∀ e, H' e = none → DealAt (upd H' e (.lst [])) p q ns b := fun e he => d.new he
    have qe : ∀ e, H' e = none → q ≠ e := fun e he z => by have := d.hq; rw [z, he] at this; cases this
    refine ⟨.ref p, rfl, p, [.ref q, .int b], 0, .ref q, rfl, rfl, SqL.of d.hp, rfl, by show 0 ≤ sizeLine; decide, fun e he => ?_⟩
    refine ⟨_, _, dp_ints (d1 e he).hq, .lst (ds := []) (SqL.of upd_same) .nil, sh_ints ns, by decide, _, rfl, ?_⟩
    rw [ne_nil_ints]
    have fx1 : Fix p q H (upd H' e (.lst [])) := fx.trans (Fix.new he)
    have D1 := d1 e he
    generalize hG : upd H' e (.lst []) = H1 at D1 fx1
    clear hG d d1 qe he fx
    rcases List.eq_nil_or_concat ns with hn | ⟨init, l, hn⟩
    · subst hn
      refine iteF ?_
      refine ⟨.ref p, rfl, p, [.ref q, .int b], 0, .ref q, rfl, rfl, SqL.of D1.hp, rfl, by show 0 ≤ sizeLine; decide, fun e he => ?_⟩
      refine ⟨_, _, dp_ints (D1.new he).hq, .lst (ds := []) (SqL.of upd_same) .nil, sh_ints [], by decide, _, rfl, ?_⟩
      rw [ne_nil_ints]
      refine iteF ?_
      have D2 := D1.new (o := .lst []) he
      have fx2 : Fix p q H (upd H1 e (.lst [])) := fx1.trans (Fix.new he)
      generalize upd H1 e (.lst []) = H2 at D2 fx2
      have D3 := D2.top (c := (b * 40693 + 71) % 2147483647) (Int.emod_nonneg _ (by decide)) (Int.emod_lt_of_pos _ (by decide))
      have fx3 : Fix p q H (upd H2 p (.lst [.ref q, .int ((b * 40693 + 71) % 2147483647)])) := fx2.trans Fix.p
      refine ⟨.ref p, rfl, p, [.ref q, .int b], 1, .int b, rfl, rfl, SqL.of D2.hp, rfl, b, 40693, rfl, rfl, .inr ⟨by decide, by decide⟩, ?_⟩
      refine ⟨_, _, rfl, rfl, .inl ⟨_, rfl, _, _, rfl, rfl, (by decide : (0 : Int) < 2147483647), ?_⟩⟩
      refine ⟨.ref p, rfl, p, [.ref q, .int b], 1, 1, rfl, rfl, D2.hp, rfl, ?_⟩
      refine ⟨.ref p, rfl, p, [.ref q, .int _], 1, .int _, rfl, rfl, SqL.of D3.hp, rfl, _, 64, rfl, rfl, ⟨by decide, by decide⟩, .inl ⟨_, rfl, .int m, rfl, _, m, rfl, rfl, hm0, ?_⟩⟩
      exact hQ _ _ ⟨_, _, D3⟩ fx3 (Int.emod_nonneg _ (by omega)) (Int.emod_lt_of_pos _ hm0)
    · have hn : ns = init ++ [l] := by simpa using hn
      subst hn
      have nz : decide (init ++ [l] = ([] : List Int)) = false := by simp
      rw [nz]
      refine iteT ?_
      have hml : (init ++ [l]).map V.int = init.map V.int ++ [V.int l] := by simp
      have hpop : (init.map V.int ++ [V.int l])[(init.map V.int ++ [V.int l]).length - 1]? = some (V.int l) := by simp
      have hdl : (init.map V.int ++ [V.int l]).dropLast = init.map V.int := by simp
      have l0 : 0 ≤ l := D1.nn l (by simp)
      have len := D1.len
      have len' : init.length + 1 ≤ 48 := by simpa using len
      have hq := D1.hq
      rw [hml] at hq
      refine ⟨.ref p, rfl, p, [.ref q, .int b], 0, .ref q, rfl, rfl, SqL.of D1.hp, rfl, 1, rfl, q, _, -1, V.int l, rfl, rfl, SqL.of hq, atI_last _ _, rfl, _, rfl, ?_⟩
      by_cases hl : l = 0
      · have e1 : decide (V.int l = V.int 0) = true := by rw [hl]; decide
        refine iteT' e1 ?_
        refine ⟨fun σ' H'' => σ' = L2.start ["_law_deal", "_law_bound", "_law_rest"] [.ref p, .int m] ∧ ∃ ns b, DealAt H'' p q ns b ∧ Fix p q H H'' ∧ ns.length = init.length, fun σ' H'' ⟨e, ns, b, h1, h2, h3⟩ => ⟨_, by simpa [h3] using Nat.lt_succ_self init.length, e, ns, b, h1, h2, rfl⟩, ?_⟩
        refine ⟨.ref p, rfl, p, [.ref q, .int b], 0, .ref q, rfl, rfl, SqL.of D1.hp, rfl, .inl ⟨rfl, _, SqL.of hq⟩, q, _, .int l, rfl, rfl, hq, hpop, ?_⟩
        rw [hdl]
        exact ⟨rfl, init, b, D1.toq (fun n hn => D1.nn n (by simp [hn])) (by omega), fx1.trans Fix.q, rfl⟩
      · have e1 : decide (V.int l = V.int 0) = false := by simpa using hl
        refine iteF' e1 ?_
        refine ⟨.ref p, rfl, p, [.ref q, .int b], 0, .ref q, rfl, rfl, SqL.of D1.hp, rfl, by show 0 ≤ sizeLine; decide, fun e he => ?_⟩
        have D2 := D1.new (o := .lst []) he
        refine ⟨_, _, dp_ints D2.hq, .lst (ds := []) (SqL.of upd_same) .nil, sh_ints _, by decide, _, rfl, ?_⟩
        rw [ne_nil_ints, nz]
        refine iteT ?_
        have fx2 : Fix p q H (upd H1 e (.lst [])) := fx1.trans (Fix.new he)
        generalize upd H1 e (.lst []) = H2 at D2 fx2
        have hq2 := D2.hq
        rw [hml] at hq2
        have D3 : DealAt (upd H2 q (.lst (init.map V.int))) p q init b := D2.toq (fun n hn => D1.nn n (by simp [hn])) (by omega)
        have D4 : DealAt (upd (upd H2 q (.lst (init.map V.int))) q (.lst ((init ++ [l / m]).map V.int))) p q (init ++ [l / m]) b := D3.toq (fun n hn => by
          rcases List.mem_append.mp hn with h | h
          · exact D1.nn n (by simp [h])
          · rw [List.mem_singleton.mp h]; exact Int.ediv_nonneg l0 (by omega)) (by simpa using len')
        refine ⟨.ref p, rfl, p, [.ref q, .int b], 0, .ref q, rfl, rfl, SqL.of D2.hp, rfl, .inl ⟨rfl, _, SqL.of hq2⟩, q, _, .int l, rfl, rfl, hq2, hpop, .inl ⟨l, rfl, ?_⟩⟩
        rw [hdl]
        refine ⟨.ref p, rfl, p, [.ref q, .int b], 0, .ref q, rfl, rfl, SqL.of D3.hp, rfl, .inl ⟨rfl, _, SqL.of upd_same⟩, .int l, rfl, .int m, rfl, l, m, rfl, rfl, ⟨hm0, hm1⟩, q, _, _, rfl, rfl, upd_same, ?_, ?_⟩
        · rw [List.length_map]; exact Nat.lt_of_lt_of_le (by omega : init.length < 48) (by decide)
        have ha : init.map V.int ++ [V.int (l / m)] = (init ++ [l / m]).map V.int := by simp
        rw [ha]
        refine ⟨.int l, rfl, .int m, rfl, l, m, rfl, rfl, hm0, ?_⟩
        exact hQ _ _ ⟨_, _, D4⟩ (fx2.trans (Fix.q.trans Fix.q)) (Int.emod_nonneg _ (by omega)) (Int.emod_lt_of_pos _ hm0)
theorem ok_of {f fA : Addr} {fd fdA : FuncData} (F : Fun K "_law_of" "_law_of" s__law_of f fd) (FA : Fun K "_law_any" "_law_any" s__law_any fA fdA) (gA : mg "_law_any" = some (.ref fA))
    (gi : mg "int" = none) (gl : mg "len" = none) : FnOk P w K mg base CX0 2 f fd ["_law_deal", "_law_some"] (spOf K) := by
  refine F.ok sc__law_of (fun vs H Q E h => ?_) fun cdv A outer s H vs Q E hr h => ⟨_, pss_one (ps_ret (pe_ix ix_list (pv 1)
    (pe_call (ok_any FA gi) hr (by rfl) gA FA.kp (FA.binds fun _ _ _ _ _ _ us hl => match us, hl with | [_, _], _ => rfl) .nil pass0 (pa_cons (pv 0) (pa_cons (pe_callB call_len_seq (by rfl) gl (by decide +kernel) (by exact pa_cons (pv 1) pa_nil)) pa_nil))) (fun _ _ => rfl))), ?_⟩
  · obtain ⟨p, q, a, xs, rfl, _⟩ := h
    rfl
  · obtain ⟨p, q, a, xs, rfl, d, n1, n2, ha, h0, h1, hQ⟩ := h
    refine ⟨.ref a, rfl, .ref p, rfl, .ref a, rfl, a, xs, rfl, Or.inl (SqL.of ha), p, q, _, rfl, d, by omega, by omega, fun H' i d' fx i0 i1 => ?_⟩
    obtain ⟨n, rfl⟩ := Int.eq_ofNat_of_zero_le i0
    have hn : n < xs.length := by omega
    exact ⟨a, xs, n, xs[n], rfl, rfl, SqL.of (fx a _ n1 n2 ha), atI_nat (List.getElem?_eq_getElem hn), hQ H' _ (List.getElem_mem hn) d' fx⟩
end

def spDraw (K : PySem.W.Frag) : Sp := fun vs H Q _ => ∃ (a : Addr) (ns : List Int) (t : Int), vs = [.ref a, .int t] ∧ SqL K H a (ns.map V.int) ∧ 0 ≤ t ∧ t < 10000 ∧
  ∀ H' p q, Same H H' → H p = none → H q = none → Deal H' p q → Q (.ref p) H'
theorem cut48 (ns : List Int) : ∃ ms : List Int, cutV (ns.map V.int) none (some 48) = ms.map V.int ∧ ms.length ≤ 48 := by
  refine ⟨(ns.drop 0).take (HT.sIx ns.length ns.length (some 48) - 0), ?_, ?_⟩
  · unfold cutV
    rw [List.length_map, HT.sIx_none, List.map_take, List.map_drop]
  · rw [List.length_take]
    have : HT.sIx ns.length ns.length (some ((48 : Nat) : Int)) = min 48 ns.length := HT.sIx_nat _ _ 48
    have h2 : (some ((48 : Nat) : Int) : Option Int) = some 48 := rfl
    rw [h2] at this
    rw [this]
    omega
theorem Same.new {H : Hp} {a : Addr} {o : HO} (n : H a = none) : Same H (upd H a o) := fun b u h => by
  rw [upd_ne (fun z => by rw [z, n] at h; cases h)]; exact h
section
variable {P : Program} {w : World} {K : PySem.W.Frag} {mg : Str → Option Value} {base : Heap}
theorem ok_draw {f : Addr} {fd : FuncData} (F : Fun K "_law_draw" "_law_draw" s__law_draw f fd) (gi : mg "int" = none) (gab : mg "abs" = none) :
    FnOk P w K mg base CX0 1 f fd ["_law_script", "_law_salt"] (spDraw K) := by
  refine F.ok sc__law_draw (fun vs H Q E h => ?_) fun cdv A outer s H vs Q E hr h => ⟨_,
    pss_cons (ps_setLc (i := 2) (own := [("_law_cell", 4)]) (g := gName 4) (tt := tYes) rfl sc__law_draw.nd rfl rfl (sw_true rfl rfl rfl (by decide +kernel)) (pi_list (pe_slice sl_list (pv 0) po_none (po_some pe_int)))
        (blkOk_by (N := ["_law_script", "_law_salt", "_law_cells", "_law_blend", "_law_cell"]) (sc := defScope s__law_draw) (by decide +kernel)) (fun _ _ _ _ _ => pg_name (i := 4) sc__law_draw.nd rfl (Or.inl rfl)) (fun _ _ _ _ _ => pts_nil)
        (fun _ _ _ _ _ => pe_callB call_abs (by rfl) gab (by decide +kernel) (pa_cons (pe_callTy call_int1 (by rfl) gi (by decide +kernel) (pa_cons (pv 4) pa_nil)) pa_nil)))
    (pss_cons (ps_set (i := 3) sc__law_draw.nd rfl (.inl rfl) (pe_op op_add pe_int (pe_op op_mul pe_int (pv 1))))
    (pss_cons (ps_for PassesOwn.never rfl (pi_list (pv 2)) (pg_name (i := 4) sc__law_draw.nd rfl (Or.inl rfl))
      (pss_one (ps_set (i := 3) sc__law_draw.nd rfl (.inl rfl) (pe_op op_mod (pe_callTy call_int1 (by rfl) gi (by decide +kernel)
        (pa_cons (pe_op op_add (pe_op op_add (pe_op op_mul (pv 3) pe_int) (pe_op op_mod (pv 4) pe_int)) pe_int) pa_nil)) pe_int))))
    (pss_one (ps_ret (pe_lst (pa_cons (pe_revL (pe_lc (own := [("_law_cell", 4)]) (g := gName 4) (by rfl) sc__law_draw.nd (pi_list (pv 2))
        (blkOk_by (own := [("_law_cell", 4)]) (N := ["_law_script", "_law_salt", "_law_cells", "_law_blend", "_law_cell"]) (sc := defScope s__law_draw) (by decide +kernel)) (fun _ _ _ _ _ => pg_name (i := 4) sc__law_draw.nd rfl (Or.inl rfl))
        (fun _ _ _ _ _ => pts_one (pt_cmpR op_ge (pv 4) (pe_op op_pow pe_int pe_int) (nomark _))) (fun _ _ _ _ _ => pv 4))) (pa_cons (pv 3) pa_nil))))))), ?_⟩
  · obtain ⟨a, ns, t, rfl, _⟩ := h
    rfl
  · obtain ⟨a, ns, t, rfl, ha, t0, t1, hQ⟩ := h
    obtain ⟨ms, hms, hlen⟩ := cut48 ns
    refine ⟨.ref a, rfl, 48, rfl, a, _, rfl, ha, fun c hc => ?_⟩
    rw [hms]
    have S1 : Same H (upd H c (.lst (ms.map V.int))) := Same.new hc
    have h1 : upd H c (.lst (ms.map V.int)) c = some (.lst (ms.map V.int)) := upd_same
    generalize upd H c (.lst (ms.map V.int)) = H1 at S1 h1
    refine ⟨c, rfl, ⟨_, SqL.of h1⟩, fun D hD => ?_⟩
    refine lc_list (xs := ms.map V.int) (fun i H' => Same H1 H' ∧ ∃ cs : List Int, H' D = some (.lst (cs.map V.int)) ∧ cs.length = i ∧ ∀ n ∈ cs, 0 ≤ n)
      ⟨Same.new hD, [], upd_same, rfl, by simp⟩ (fun i H' _ p => SqL.of (p.1 _ _ h1)) (fun i x H' hi p => ?_) (fun H' p => ?_)
    · obtain ⟨s1, cs, hc1, hl, h0⟩ := p
      have hi' := (List.getElem?_eq_some_iff.mp hi).1
      rw [List.length_map] at hi'
      rw [List.getElem?_map] at hi
      obtain ⟨n, _, rfl⟩ := Option.map_eq_some_iff.mp hi
      refine ⟨rfl, .int n, rfl, .inl ⟨n, rfl, n, rfl, cs.map V.int, hc1, ?_, ?_, cs ++ [if n < 0 then -n else n], ?_, ?_, ?_⟩⟩
      · rw [List.length_map]; exact Nat.lt_of_lt_of_le (by omega : cs.length < 48) (by decide)
      · exact fun b o h => by
          rw [upd_ne (fun z => ?_)]
          · exact s1 b o h
          · rw [z, hD] at h; cases h
      · rw [upd_same]; simp
      · simp [hl]
      · intro k hk
        rcases List.mem_append.mp hk with hk | hk
        · exact h0 k hk
        · rw [List.mem_singleton.mp hk]; split <;> omega
    · obtain ⟨s1, cs, hc1, hl, h0⟩ := p
      have hl : cs.length ≤ 48 := by rw [hl, List.length_map]; exact hlen
      have S2 := S1.trans s1
      have hDn : H D = none := S1.free hD
      refine ⟨.int t, rfl, 104729, t, rfl, rfl, .inl ⟨by decide, by decide⟩, 7919, _, rfl, rfl, ?_⟩
      refine ⟨.ref D, rfl, D, rfl, ⟨_, SqL.of hc1⟩, for_list (xs := cs.map V.int) (fun i σ H'' => H'' = H' ∧ ∃ b o, σ = [some (.ref a), some (.int t), some (.ref D), some (.int b), o] ∧ 0 ≤ b ∧ b < 2147483647)
        ⟨rfl, 7919 + 104729 * t, _, rfl, by omega, by omega⟩ (fun i σ H'' _ p => by rw [p.1]; exact SqL.of hc1) (fun i x σ H'' hi p => ?_) (fun σ H'' p => ?_)⟩
      · obtain ⟨rfl, b, o, rfl, b0, b1⟩ := p
        rw [List.getElem?_map] at hi
        obtain ⟨n, _, rfl⟩ := Option.map_eq_some_iff.mp hi
        refine ⟨.int b, rfl, b, 48271, rfl, rfl, .inr ⟨by decide, by decide⟩, .int n, rfl, n, 2147483549, rfl, rfl, (by decide : (0 : Int) < 2147483549), _, _, rfl, rfl, _, 11, rfl, rfl, .inl ⟨_, rfl, _, 2147483647, rfl, rfl, (by decide : (0 : Int) < 2147483647), ?_⟩⟩
        exact ⟨rfl, _, _, rfl, Int.emod_nonneg _ (by decide), Int.emod_lt_of_pos _ (by decide)⟩
      · obtain ⟨rfl, b, o, rfl, b0, b1⟩ := p
        refine ⟨.ref D, rfl, D, rfl, ⟨_, SqL.of hc1⟩, fun D2 hD2 => ?_⟩
        refine lc_list (xs := cs.map V.int) (fun i H2 => Same H'' H2 ∧ ∃ es : List Int, H2 D2 = some (.lst (es.map V.int)) ∧ es.length ≤ i ∧ ∀ n ∈ es, 0 ≤ n)
          ⟨Same.new hD2, [], upd_same, Nat.le_refl _, by simp⟩ (fun i H2 _ p => SqL.of (p.1 _ _ hc1)) (fun i x H2 hi p => ?_) (fun H2 p => ?_)
        · obtain ⟨s1, es, he1, hl, h0'⟩ := p
          have hi' := (List.getElem?_eq_some_iff.mp hi).1
          rw [List.length_map] at hi'
          rw [List.getElem?_map] at hi
          obtain ⟨n, hn, rfl⟩ := Option.map_eq_some_iff.mp hi
          have hmem := List.mem_of_getElem? hn
          refine ⟨rfl, .int n, rfl, 10, 18, rfl, rfl, ⟨by decide, by decide, by decide⟩, n, _, rfl, rfl, _, rfl, ?_⟩
          by_cases hb : decide ((10 : Int) ^ (18 : Int).toNat ≤ n) = true
          · refine iteT' hb ⟨.int n, rfl, es.map V.int, he1, ?_, ?_, es ++ [n], ?_, ?_, ?_⟩
            · rw [List.length_map]; exact Nat.lt_of_lt_of_le (by omega : es.length < 48) (by decide)
            · exact fun b o h => by
                rw [upd_ne (fun z => ?_)]
                · exact s1 b o h
                · rw [z, hD2] at h; cases h
            · rw [upd_same]; simp
            · simp; omega
            · intro k hk
              rcases List.mem_append.mp hk with hk | hk
              · exact h0' k hk
              · rw [List.mem_singleton.mp hk]; exact h0 n hmem
          · exact iteF' (by simpa using hb) ⟨s1, es, he1, by omega, h0'⟩
        · obtain ⟨s1, es, he1, hl2, h0'⟩ := p
          rw [List.length_map] at hl2
          refine ⟨D2, _, rfl, SqL.of he1, fun q hq => ?_⟩
          refine ⟨.int b, rfl, by show 2 ≤ sizeLine; decide, fun p hp => ?_⟩
          have S3 := (S2.trans s1).trans (Same.new (o := .lst (es.map V.int).reverse) hq)
          have hqp : p ≠ q := fun z => by rw [z, upd_same] at hp; cases hp
          refine hQ _ p q (S3.trans (Same.new hp)) ((S3).free hp) ((S2.trans s1).free hq) ⟨es.reverse, b, upd_same, ?_, hqp, fun n hn => h0' n (by simpa using hn), by simp; omega, b0, b1⟩
          rw [upd_ne (Ne.symm hqp), upd_same, List.map_reverse]
end
end K10

namespace K10
open PySem PySem.Spec PyProof.Rows L2 KX
/-! ### classes of values -/
theorem tyx_same {K : PySem.W.Frag} {H H' : Hp} {x : V} {t : Value} (h : TyX K H x t) (s : Same H H') : TyX K H' x t := by
  cases h with
  | base h =>
    refine .base ?_
    cases h with
    | lst e => exact .lst (s _ _ e)
    | frz e => exact .frz (s _ _ e)
    | tup e => exact .tup (s _ _ e)
    | dK e => exact .dK (s _ _ e)
    | dT e => exact .dT (s _ _ e)
    | ins e a b c d f => exact .ins (s _ _ e) a b c d f
    | _ => constructor
  | byt b => exact .byt b
  | set e => exact .set (s _ _ e)
  | kList e c => exact .kList e c
  | kTuple e c => exact .kTuple e c
  | kDict e c => exact .kDict e c
  | fTuple e => exact .fTuple (s _ _ e)
  | fDict e => exact .fDict (s _ _ e)
theorem kin_same {K : PySem.W.Frag} {H H' : Hp} {x : V} {o : Option Int} (h : Kin K H x o) (s : Same H H') : Kin K H' x o := by
  cases h with
  | int i => exact .int i
  | oth t h1 h2 h3 => exact .oth (tyx_same t s) h1 h2 h3
theorem kins_same {K : PySem.W.Frag} {H H' : Hp} {xs : List V} {os : List (Option Int)} (h : Paired (Kin K H) xs os) (s : Same H H') : Paired (Kin K H') xs os := by
  induction h with
  | nil => exact .nil
  | cons a _ ih => exact .cons (kin_same a s) ih
inductive SqX (K : PySem.W.Frag) (H : Hp) : V → Option (List V) → Prop
  | lst {a : Addr} {xs : List V} (h : H a = some (.lst xs)) : SqX K H (.ref a) (some xs)
  | tup {a : Addr} {xs : List V} (h : Tup H a xs) : SqX K H (.ref a) (some xs)
  | oth {x : V} {n : String} (t : TyX K H x (.type n)) (h1 : kitB n "list" = some false) (h2 : kitB n "tuple" = some false) : SqX K H x none
theorem sqx_same {K : PySem.W.Frag} {H H' : Hp} {x : V} {o : Option (List V)} (h : SqX K H x o) (s : Same H H') : SqX K H' x o := by
  cases h with
  | lst h => exact .lst (s _ _ h)
  | tup h => exact .tup (h.same s)
  | oth t h1 h2 => exact .oth (tyx_same t s) h1 h2
theorem SqX.ty {K : PySem.W.Frag} {H : Hp} {x : V} {o : Option (List V)} (h : SqX K H x o) : ∃ n b1 b2, TyX K H x (.type n) ∧ kitB n "list" = some b1 ∧ kitB n "tuple" = some b2 ∧ (b1 || b2) = o.isSome := by
  cases h with
  | lst h => exact ⟨"list", true, false, .base (.lst h), by decide +kernel, by decide +kernel, rfl⟩
  | tup h => exact ⟨"tuple", false, true, h.ty, by decide +kernel, by decide +kernel, rfl⟩
  | oth t h1 h2 => exact ⟨_, _, _, t, h1, h2, rfl⟩
theorem kit_any {K : PySem.W.Frag} {n : String} {b1 b2 : Bool} (h1 : kitB n "list" = some b1) (h2 : kitB n "tuple" = some b2) :
    PySem.W.kitAny K (.type n) [.type "list", .type "tuple"] = some (b1 || b2) := by
  have k1 : PySem.W.kitOne K (.type n) (.type "list") = some b1 := kit_ty h1
  have k2 : PySem.W.kitOne K (.type n) (.type "tuple") = some b2 := kit_ty h2
  unfold PySem.W.kitAny
  rw [k1]
  cases b1 with
  | true => rfl
  | false =>
    show PySem.W.kitAny K (.type n) [.type "tuple"] = some b2
    unfold PySem.W.kitAny
    rw [k2]
    cases b2 <;> rfl
def numB : Option Int → Bool
  | some i => decide (0 ≤ i)
  | none => false
def belB (o : Option Int) (n : Int) : Bool := match o with
  | some i => decide (0 ≤ i) && decide (i < n)
  | none => false
abbrev bel4 (o : Option Int) : Bool := belB o 4
/-! ### what the defs do -/
def spIsInt (K : PySem.W.Frag) : Sp := fun vs H Q _ => ∃ x o, vs = [x] ∧ Kin K H x o ∧ Q (.bl o.isSome) H
def spNum (K : PySem.W.Frag) : Sp := fun vs H Q _ => ∃ x o, vs = [x] ∧ Kin K H x o ∧ Q (.bl (numB o)) H
def spBelow (K : PySem.W.Frag) : Sp := fun vs H Q _ => ∃ x o, ∃ n : Int, vs = [x, .int n] ∧ Kin K H x o ∧ Q (.bl (belB o n)) H
def spMode (K : PySem.W.Frag) : Sp := fun vs H Q _ => ∃ x o, vs = [x] ∧ Kin K H x o ∧ Q (.bl (bel4 o)) H
def spSeq (K : PySem.W.Frag) : Sp := fun vs H Q _ => ∃ x o, vs = [x] ∧ SqX K H x o ∧ ∀ H', Same H H' → Q (.bl o.isSome) H'
section
variable {P : Program} {w : World} {K : PySem.W.Frag} {mg : Str → Option Value} {base : Heap} {f1 f2 f3 : Addr} {d1 d2 d3 : FuncData} {f : Addr} {fd : FuncData}
theorem ok_int (F : Fun K "is_integer" "is_integer" s_is_integer f fd) (gI : mg "isinstance" = none)
    (gi : mg "int" = none) (gb : mg "bool" = none) : FnOk P w K mg base CX0 1 f fd ["value"] (spIsInt K) := by
  refine F.ok sc_is_integer (fun vs H Q E h => ?_) fun cdv A outer s H vs Q E hr h => ⟨_, pss_one (ps_ret (pe_and
      (pe_callB call_isi (by rfl) gI (by decide +kernel) (by exact pa_cons (pv 0) (pa_cons (pe_bltn (v := .ty "int") rfl gi (by decide +kernel) rfl) pa_nil)))
      (pe_one (pe_not (pe_callB call_isi (by rfl) gI (by decide +kernel)
        (by exact pa_cons (pv 0) (pa_cons (pe_bltn (v := .ty "bool") rfl gb (by decide +kernel) rfl) pa_nil))))))), ?_⟩
  · obtain ⟨x, o, rfl, _⟩ := h
    rfl
  · obtain ⟨x, o, rfl, hk, hQ⟩ := h
    obtain ⟨n, b1, b2, ty, k1, k2, e⟩ := hk.ty
    refine ⟨_, rfl, x, .ty "int", _, _, b1, rfl, .ty "int", ty, kit_ty k1, b1, rfl, ?_⟩
    rw [← e] at hQ
    cases b1 with
    | false => exact iteF hQ
    | true => exact iteT ⟨_, rfl, x, .ty "bool", _, _, b2, rfl, .ty "bool", ty, kit_ty k2, b2, rfl, hQ⟩
theorem ok_num (F : Fun K "is_number" "is_number" s_is_number f fd) (F1 : Fun K "is_integer" "is_integer" s_is_integer f1 d1) (G1 : FnOk P w K mg base CX0 1 f1 d1 ["value"] (spIsInt K))
    (g1 : mg "is_integer" = some (.ref f1)) : FnOk P w K mg base CX0 2 f fd ["value"] (spNum K) := by
  refine F.ok sc_is_number (fun vs H Q E h => ?_) fun cdv A outer s H vs Q E hr h => ⟨_, pss_one (ps_ret (pe_and
      (pe_call G1 hr (by rfl) g1 F1.kp (F1.binds fun _ _ _ _ _ _ us hl => match us, hl with | [_], _ => rfl) .nil pass0 (by exact pa_cons (pv 0) pa_nil))
      (pe_one (pe_cmpR op_ge (pv 0) pe_int (nomark _))))), ?_⟩
  · obtain ⟨x, o, rfl, _⟩ := h
    rfl
  · obtain ⟨x, o, rfl, hk, hQ⟩ := h
    refine ⟨x, rfl, x, o, rfl, hk, o.isSome, rfl, ?_⟩
    cases hk with
    | int i => exact iteT ⟨.int i, rfl, i, 0, rfl, rfl, hQ⟩
    | oth t h1 h2 h3 => exact iteF hQ
end
section
variable {P : Program} {w : World} {K : PySem.W.Frag} {mg : Str → Option Value} {base : Heap} (T : TX K mg)
theorem G_is_integer : FnOk P w K mg base CX0 1 T.f_is_integer T.d_is_integer ["value"] (spIsInt K) := ok_int T.F_is_integer T.n_isinstance T.n_int T.n_bool
theorem G_is_number : FnOk P w K mg base CX0 2 T.f_is_number T.d_is_number ["value"] (spNum K) := ok_num T.F_is_number T.F_is_integer (G_is_integer T) T.m_is_integer
theorem G__law_any : FnOk P w K mg base CX0 1 T.f__law_any T.d__law_any ["_law_deal", "_law_bound"] spAny := ok_any T.F__law_any T.n_int
theorem G__law_of : FnOk P w K mg base CX0 2 T.f__law_of T.d__law_of ["_law_deal", "_law_some"] (spOf K) := ok_of T.F__law_of T.F__law_any T.m__law_any T.n_int T.n_len
theorem G__law_draw : FnOk P w K mg base CX0 1 T.f__law_draw T.d__law_draw ["_law_script", "_law_salt"] (spDraw K) := ok_draw T.F__law_draw T.n_int T.n_abs
end
end K10

namespace K10
open PySem PySem.Spec PyProof.Rows L2 KX
local macro_rules | `(tactic| walk_at "rd1") => `(tactic| first
  | with_reducible refine rd_seq ?_
  | with_reducible refine rd_for ?_
  | with_reducible refine rd_lc ?_
  | with_reducible refine rd_asg ?_
  | ((with_reducible refine' rd_var ?rdv ?_); (case rdv => exact rfl))
  | with_reducible refine rd_c ?_
  | with_reducible refine rd_op ?_
  | with_reducible refine rd_un ?_
  | with_reducible refine rd_cons ?_
  | with_reducible refine rd_nil ?_
  | with_reducible refine rd_call ?_
  | with_reducible refine rd_cb ?_
  | with_reducible refine rd_tB ?_
  | with_reducible refine rd_test ?_
  | with_reducible refine rd_bl ?_
  | with_reducible refine rd_rI0 ?_
  | with_reducible refine rd_eqI ?_
  | with_reducible refine rd_neI ?_
  | with_reducible refine rd_rU ?_
  | with_reducible refine rd_name ?_
  | with_reducible refine rd_ifs ?_
  | with_reducible refine rd_and ?_
  | with_reducible refine rd_or ?_
  | with_reducible refine rd_not ?_
  | with_reducible refine rd_yes ?_
  | with_reducible refine rd_andV ?_
  | with_reducible refine rd_orV ?_
  | with_reducible refine rd_notV ?_
  | with_reducible refine rd_if ?_
  | with_reducible refine rd_isN ?_
  | with_reducible refine rd_iT ?_
  | with_reducible refine rd_iF ?_
  | with_reducible refine rd_ret ?_
  | with_reducible refine rd_retN ?_
  | with_reducible refine rd_drop ?_
  | with_reducible refine rd_next ?_
  | with_reducible refine rd_cont ?_
  | with_reducible refine rd_brk ?_
  | with_reducible refine rd_nx ?_
  | with_reducible refine rd_rt ?_
  | with_reducible refine rd_ct ?_
  | with_reducible refine rd_bk ?_
  | with_reducible refine rd_par ?_
  | with_reducible refine rd_par3 ?_
  | with_reducible refine rd_par2 ?_
  | with_reducible refine rd_par33 ?_
  | with_reducible refine rd_gcons ?_
  | with_reducible refine rd_gnil ?_
  | with_reducible refine rd_sub ?_
  | with_reducible refine rd_tup ?_
  | with_reducible refine rd_lst ?_
  | ((with_reducible refine rd_tupT ?hl ?_); (case hl => exact Nat.le_of_ble_eq_true rfl))
  | ((with_reducible refine rd_lstT ?hl ?_); (case hl => exact Nat.le_of_ble_eq_true rfl))
  | with_reducible refine rd_bm ?_
  | with_reducible refine rd_bm0 ?_
  | with_reducible refine rd_sl ?_
  | with_reducible refine rd_noP ?_
  | with_reducible refine rd_part ?_
  | with_reducible refine rd_int ?_
  | with_reducible refine rd_int1 ?_
  | with_reducible refine rd_fld ?_
  | with_reducible refine rd_then ?_
  | with_reducible refine rd_raise ?_
  | with_reducible refine rd_one ?_
  | with_reducible refine rd_sfld ?_
  | with_reducible refine rd_ilist ?_
  | with_reducible refine rd_itup ?_
  | with_reducible refine rd_rng1 ?_
  | with_reducible refine rd_enum ?_
  | with_reducible refine rd_enumT ?_)
local macro_rules | `(tactic| walk_at "rd") => `(tactic| repeat (walk_at "rd1"))
/-- a comprehension over a list or a tuple, its values told -/
theorem lcv_both {K : PySem.W.Frag} {g : TG} {te ti : TE} {vs : List Nat} {σ : L2.St} {H1 : Hp} {x : V} {xs : List V} {Q : Addr → Hp → Prop} (zs : List V) (hx : SqX K H1 x (some xs)) (hi : ∀ R : VK, R x H1 → ti σ H1 R) (lz : zs.length = xs.length) (hz : zs.length < 1000000)
    (hs : ∀ (i : Nat) (x z : V) (H' : Hp), xs[i]? = some x → zs[i]? = some z → Same H1 H' → ∀ R : VK, (∀ H4, Same H' H4 → R z H4) → g x (wipe σ vs) H' fun σ2 H2 => wipe σ2 vs = wipe σ vs ∧ te σ2 H2 R)
    (hd : ∀ H' D, Same H1 H' → H' D = some (.lst zs) → Q D H') {R : It → Hp → Prop} (hR : R = fun J H1 => ∀ D, H1 D = none → ∃ W : Nat → Nat → Hp → Prop, (∃ m, W 0 m (upd H1 D (.lst []))) ∧ ∀ i m H, W i m H →
      (J.stop i H ∧ Q D H) ∨ (J.go i H ∧ ∃ Nx : Hp → Prop, (∀ H', Nx H' → ∃ m', m' < m ∧ W (i + 1) m' H') ∧ ∀ x H', J.yld i H x H' → g x (wipe σ vs) H' fun σ2 H2 => wipe σ2 vs = wipe σ vs ∧ tYes σ2 H2 fun b H3 =>
        if b = true then te σ2 H3 fun y H4 => ∃ acc, H4 D = some (.lst acc) ∧ acc.length < sizeLine ∧ Nx (upd H4 D (.lst (acc ++ [y]))) else Nx H3)) : iList K ti σ H1 R ∨ iTup K ti σ H1 R := by
  subst hR
  cases hx with
  | lst h => exact .inl (hi _ ⟨_, rfl, ⟨_, SqL.of h⟩, fun D hD => lcv_list zs h lz hz hD hs fun H' S e => hd H' D S e⟩)
  | tup h => exact .inr (hi _ ⟨_, rfl, ⟨_, h.sq⟩, fun D hD => lcv_tup zs h lz hz hD hs fun H' S e => hd H' D S e⟩)
/-- a tuple of so many -/
def spIsTup (K : PySem.W.Frag) : L2.Sp := fun vs H Q _ => ∃ (x : V) (k : Int), vs = [x, .int k] ∧
  ((∃ n, TyX K H x (.type n) ∧ kitB n "tuple" = some false ∧ Q (.bl false) H) ∨ ∃ a xs, x = .ref a ∧ Tup H a xs ∧ Q (.bl (decide ((xs.length : Int) = k))) H)
section
variable {P : Program} {w : World} {K : PySem.W.Frag} {mg : Str → Option Value} {base : Heap} (T : TX K mg)
theorem G_is_tuple_of : FnOk P w K mg base CX0 1 T.f_is_tuple_of T.d_is_tuple_of ["value", "length"] (spIsTup K) := by
  refine T.F_is_tuple_of.ok sc_is_tuple_of (fun vs H Q E h => ?_) fun cdv A outer s H vs Q E hr h => ⟨_, (pss_one (ps_ret (pe_and (pe_callB (cr_isiK (K := K)) (by rfl) T.n_isinstance (by decide +kernel) (by exact (pa_cons (pv 0) (pa_cons (pe_bltn (v := .ty "tuple") rfl T.n_tuple (by decide +kernel) rfl) pa_nil)))) (pe_one (pe_cmpR op_eq (pe_callB (cr_lenK (K := K)) (by rfl) T.n_len (by decide +kernel) (by exact (pa_cons (pv 0) pa_nil))) (pv 1) (nomark _)))))), ?_⟩
  · obtain ⟨x, k, rfl, _⟩ := h
    rfl
  · obtain ⟨x, k, rfl, h⟩ := h
    walk_at "rd"
    rcases h with ⟨n, ty, k1, hQ⟩ | ⟨a, xs, rfl, ha, hQ⟩
    · refine ⟨_, _, _, _, _, rfl, .ty "tuple", ty, kit_ty k1, ?_⟩
      walk_at "rd"
      exact hQ
    · refine ⟨_, _, _, _, true, rfl, .ty "tuple", ha.ty, kit_ty (by decide +kernel), ?_⟩
      walk_at "rd"
      refine rd_lenTup ha ?_
      walk_at "rd"
      exact hQ
end
end K10

namespace K10
open PySem PySem.Spec PyProof.Rows L2 KX
local macro_rules | `(tactic| walk_at "rd1") => `(tactic| first
  | with_reducible refine rd_seq ?_
  | with_reducible refine rd_for ?_
  | with_reducible refine rd_lc ?_
  | with_reducible refine rd_asg ?_
  | ((with_reducible refine' rd_var ?rdv ?_); (case rdv => exact rfl))
  | with_reducible refine rd_c ?_
  | with_reducible refine rd_op ?_
  | with_reducible refine rd_un ?_
  | with_reducible refine rd_cons ?_
  | with_reducible refine rd_nil ?_
  | with_reducible refine rd_call ?_
  | with_reducible refine rd_cb ?_
  | with_reducible refine rd_tB ?_
  | with_reducible refine rd_test ?_
  | with_reducible refine rd_bl ?_
  | with_reducible refine rd_rI0 ?_
  | with_reducible refine rd_eqI ?_
  | with_reducible refine rd_neI ?_
  | with_reducible refine rd_rU ?_
  | with_reducible refine rd_name ?_
  | with_reducible refine rd_ifs ?_
  | with_reducible refine rd_and ?_
  | with_reducible refine rd_or ?_
  | with_reducible refine rd_not ?_
  | with_reducible refine rd_yes ?_
  | with_reducible refine rd_andV ?_
  | with_reducible refine rd_orV ?_
  | with_reducible refine rd_notV ?_
  | with_reducible refine rd_if ?_
  | with_reducible refine rd_isN ?_
  | with_reducible refine rd_iT ?_
  | with_reducible refine rd_iF ?_
  | with_reducible refine rd_ret ?_
  | with_reducible refine rd_retN ?_
  | with_reducible refine rd_drop ?_
  | with_reducible refine rd_next ?_
  | with_reducible refine rd_cont ?_
  | with_reducible refine rd_brk ?_
  | with_reducible refine rd_nx ?_
  | with_reducible refine rd_rt ?_
  | with_reducible refine rd_ct ?_
  | with_reducible refine rd_bk ?_
  | with_reducible refine rd_par ?_
  | with_reducible refine rd_par3 ?_
  | with_reducible refine rd_par2 ?_
  | with_reducible refine rd_par33 ?_
  | with_reducible refine rd_gcons ?_
  | with_reducible refine rd_gnil ?_
  | with_reducible refine rd_sub ?_
  | with_reducible refine rd_tup ?_
  | with_reducible refine rd_lst ?_
  | ((with_reducible refine rd_tupT ?hl ?_); (case hl => exact Nat.le_of_ble_eq_true rfl))
  | ((with_reducible refine rd_lstT ?hl ?_); (case hl => exact Nat.le_of_ble_eq_true rfl))
  | with_reducible refine rd_bm ?_
  | with_reducible refine rd_bm0 ?_
  | with_reducible refine rd_sl ?_
  | with_reducible refine rd_noP ?_
  | with_reducible refine rd_part ?_
  | with_reducible refine rd_int ?_
  | with_reducible refine rd_int1 ?_
  | with_reducible refine rd_fld ?_
  | with_reducible refine rd_then ?_
  | with_reducible refine rd_raise ?_
  | with_reducible refine rd_one ?_
  | with_reducible refine rd_sfld ?_
  | with_reducible refine rd_ilist ?_
  | with_reducible refine rd_itup ?_
  | with_reducible refine rd_rng1 ?_
  | with_reducible refine rd_enum ?_
  | with_reducible refine rd_enumT ?_)
local macro_rules | `(tactic| walk_at "rd") => `(tactic| repeat (walk_at "rd1"))
theorem paired_get {α β : Type} {F : α → β → Prop} {l : List α} {m : List β} (h : Paired F l m) : ∀ {i : Nat} {x : α}, l[i]? = some x → ∃ y, m[i]? = some y ∧ F x y := by
  induction h with
  | nil => intro i x e; simp at e
  | @cons a b l m hab t ih =>
    intro i x e
    cases i with
    | zero => simp at e; subst e; exact ⟨b, by simp, hab⟩
    | succ j => simp at e; obtain ⟨y, h1, h2⟩ := ih e; exact ⟨y, by simpa using h1, h2⟩
theorem paired_len {α β : Type} {F : α → β → Prop} {l : List α} {m : List β} (h : Paired F l m) : l.length = m.length := by
  induction h with
  | nil => rfl
  | cons _ _ ih => simp [ih]
theorem Same.put {H H' : Hp} {D : Addr} {o : HO} (s : Same H H') (n : H D = none) : Same H (L2.upd H' D o) := fun c u h => by
  rw [upd_ne (fun z => by rw [z, n] at h; cases h)]
  exact s c u h
theorem paired_mono {α β : Type} {F G : α → β → Prop} {l : List α} {m : List β} (h : Paired F l m) (f : ∀ a b, F a b → G a b) : Paired G l m := by
  induction h with
  | nil => exact .nil
  | cons a _ ih => exact .cons (f _ _ a) ih
theorem inV_ints (b : Int) : ∀ row : List Int, inV (.int b) (row.map V.int) = decide (b ∈ row)
  | [] => rfl
  | x :: row => by
    have h := inV_ints b row
    show (eqV (.int x) (.int b) || inV (.int b) (row.map V.int)) = _
    rw [h]
    have e : eqV (.int x) (.int b) = decide (x = b) := by
      first
        | rfl
        | (simp [eqV])
    rw [e]
    by_cases z : x = b
    · simp [z]
    · have z' : ¬ b = x := fun q => z q.symm
      simp [z, z']
theorem flat_ints : ∀ row : List Int, (row.map V.int).all flatV = true
  | [] => rfl
  | x :: row => by
    show (flatV (.int x) && (row.map V.int).all flatV) = true
    rw [flat_ints row]; rfl
theorem rd_notInI {K : PySem.W.Frag} {H : Hp} {p : Addr} {row : List Int} {b : Int} {Q : VK} (ha : SqL K H p (row.map V.int) ∨ SqT K H p (row.map V.int)) (h : Q (.bl (!decide (b ∈ row))) H) : rIn K true (.int b) (.ref p) H Q :=
  ⟨p, _, rfl, ha, rfl, flat_ints row, by rw [inV_ints]; exact h⟩
theorem rd_inI {K : PySem.W.Frag} {H : Hp} {p : Addr} {row : List Int} {b : Int} {Q : VK} (ha : SqL K H p (row.map V.int) ∨ SqT K H p (row.map V.int)) (h : Q (.bl (decide (b ∈ row))) H) : rIn K false (.int b) (.ref p) H Q :=
  ⟨p, _, rfl, ha, rfl, flat_ints row, by rw [inV_ints]; exact h⟩
def RowT (H : Hp) (q : Addr) (ns : List Int) : Prop := Tup H q (ns.map V.int)
def PairAt (H : Hp) (q : Addr) (e : Int × Int) : Prop := H q = some (.tup [.int e.1, .int e.2])
theorem dp_pair {K : PySem.W.Frag} {H : Hp} {q : Addr} {e : Int × Int} (h : PairAt H q e) : Dp K H (.ref q) (dP e) := .tup (SqT.of h) (.cons (.int _) (.cons (.int _) .nil))
theorem dp_pairs {K : PySem.W.Frag} {H : Hp} {ps : List Addr} {L : List (Int × Int)} (h : Paired (PairAt H) ps L) : DpAll K H (ps.map V.ref) (L.map dP) := by
  induction h with
  | nil => exact .nil
  | cons a _ ih => exact .cons (dp_pair a) ih
def inc (s : Int) (e : Int × Int) : Bool := decide (e.1 = s) || decide (e.2 = s)
def norm (e : Int × Int) : Int × Int := if e.1 ≤ e.2 then e else (e.2, e.1)
structure Good (n : Nat) (d : Nat) (L : List (Int × Int)) : Prop where
  rng : ∀ e ∈ L, 0 ≤ e.1 ∧ e.1 < e.2 ∧ e.2 < n
  nd : L.Nodup
  deg : ∀ s : Int, (L.filter (inc s)).length ≤ d
def lexlt (e f : Int × Int) : Prop := e.1 < f.1 ∨ e.1 = f.1 ∧ e.2 < f.2
def nb (M : List (Int × Int)) (a : Int) : List Int := M.filterMap fun e => if e.1 = a then some e.2 else if e.2 = a then some e.1 else none
theorem nb_append (M M' : List (Int × Int)) (a : Int) : nb (M ++ M') a = nb M a ++ nb M' a := by unfold nb; exact List.filterMap_append
theorem nb_one (x y a : Int) : nb [(x, y)] a = if x = a then [y] else if y = a then [x] else [] := by
  unfold nb
  by_cases h1 : x = a
  · simp [h1]
  · by_cases h2 : y = a <;> simp [h1, h2]
theorem nb_len (M : List (Int × Int)) (a : Int) : (nb M a).length = (M.filter (inc a)).length := by
  induction M with
  | nil => rfl
  | cons e M ih =>
    obtain ⟨x, y⟩ := e
    have h : nb ((x, y) :: M) a = nb [(x, y)] a ++ nb M a := nb_append [(x, y)] M a
    rw [h, nb_one, List.length_append, ih]
    by_cases h1 : x = a
    · simp [inc, h1]; omega
    · by_cases h2 : y = a
      · simp [inc, h1, h2]; omega
      · simp [inc, h1, h2]
theorem inc_norm (a : Int) (e : Int × Int) : inc a (norm e) = inc a e := by
  unfold norm
  split
  · rfl
  · show (decide (e.2 = a) || decide (e.1 = a)) = (decide (e.1 = a) || decide (e.2 = a))
    exact Bool.or_comm _ _
theorem filter_len_le {M : List (Int × Int)} {p : Int × Int → Bool} {i : Nat} {e : Int × Int} (h : M[i]? = some e) (hp : p e = true) : ((M.take i).filter p).length < (M.filter p).length := by
  have hi := (List.getElem?_eq_some_iff.mp h).1
  have e1 : M = M.take (i + 1) ++ M.drop (i + 1) := (List.take_append_drop _ _).symm
  have et : M.take (i + 1) = M.take i ++ [e] := by rw [List.take_succ, h]; rfl
  have z : (M.filter p).length = ((M.take (i + 1)).filter p).length + ((M.drop (i + 1)).filter p).length := by
    have e2 : M.filter p = (M.take (i + 1)).filter p ++ (M.drop (i + 1)).filter p := by
      rw [← List.filter_append, List.take_append_drop]
    rw [e2, List.length_append]
  rw [z, et, List.filter_append, List.length_append]
  simp [hp]
  omega
theorem perm_filter_len {L M : List (Int × Int)} (h : L.Perm M) (p : Int × Int → Bool) : (L.filter p).length = (M.filter p).length := (h.filter p).length_eq
end K10

namespace K10
open PySem PySem.Spec PyProof.Rows L2 KX
local macro_rules | `(tactic| walk_at "rd1") => `(tactic| first
  | with_reducible refine rd_seq ?_
  | with_reducible refine rd_asg ?_
  | ((with_reducible refine' rd_var ?rdv ?_); (case rdv => exact rfl))
  | with_reducible refine rd_c ?_
  | with_reducible refine rd_op ?_
  | with_reducible refine rd_un ?_
  | with_reducible refine rd_cons ?_
  | with_reducible refine rd_nil ?_
  | with_reducible refine rd_call ?_
  | with_reducible refine rd_cb ?_
  | with_reducible refine rd_tB ?_
  | with_reducible refine rd_test ?_
  | with_reducible refine rd_bl ?_
  | with_reducible refine rd_rI0 ?_
  | with_reducible refine rd_eqI ?_
  | with_reducible refine rd_neI ?_
  | with_reducible refine rd_rU ?_
  | with_reducible refine rd_name ?_
  | with_reducible refine rd_ifs ?_
  | with_reducible refine rd_and ?_
  | with_reducible refine rd_or ?_
  | with_reducible refine rd_not ?_
  | with_reducible refine rd_yes ?_
  | with_reducible refine rd_andV ?_
  | with_reducible refine rd_orV ?_
  | with_reducible refine rd_notV ?_
  | with_reducible refine rd_if ?_
  | with_reducible refine rd_isN ?_
  | with_reducible refine rd_iT ?_
  | with_reducible refine rd_iF ?_
  | with_reducible refine rd_ret ?_
  | with_reducible refine rd_retN ?_
  | with_reducible refine rd_drop ?_
  | with_reducible refine rd_next ?_
  | with_reducible refine rd_cont ?_
  | with_reducible refine rd_brk ?_
  | with_reducible refine rd_nx ?_
  | with_reducible refine rd_rt ?_
  | with_reducible refine rd_ct ?_
  | with_reducible refine rd_bk ?_
  | with_reducible refine rd_par ?_
  | with_reducible refine rd_par3 ?_
  | with_reducible refine rd_par2 ?_
  | with_reducible refine rd_par33 ?_
  | with_reducible refine rd_gcons ?_
  | with_reducible refine rd_gnil ?_
  | with_reducible refine rd_sub ?_
  | with_reducible refine rd_tup ?_
  | with_reducible refine rd_lst ?_
  | ((with_reducible refine rd_tupT ?hl ?_); (case hl => exact Nat.le_of_ble_eq_true rfl))
  | ((with_reducible refine rd_lstT ?hl ?_); (case hl => exact Nat.le_of_ble_eq_true rfl))
  | with_reducible refine rd_bm ?_
  | with_reducible refine rd_bm0 ?_
  | with_reducible refine rd_sl ?_
  | with_reducible refine rd_noP ?_
  | with_reducible refine rd_part ?_
  | with_reducible refine rd_int ?_
  | with_reducible refine rd_int1 ?_
  | with_reducible refine rd_fld ?_
  | with_reducible refine rd_then ?_
  | with_reducible refine rd_raise ?_
  | with_reducible refine rd_one ?_
  | with_reducible refine rd_sfld ?_
  | with_reducible refine rd_ilist ?_
  | with_reducible refine rd_itup ?_
  | with_reducible refine rd_rng1 ?_
  | with_reducible refine rd_enum ?_
  | with_reducible refine rd_enumT ?_)
local macro_rules | `(tactic| walk_at "rd") => `(tactic| repeat (walk_at "rd1"))
theorem Deal.new {H : Hp} {p q a : Addr} {o : HO} (d : Deal H p q) (n : H a = none) : Deal (upd H a o) p q ∧ a ≠ p ∧ a ≠ q := by
  obtain ⟨ns, b, d⟩ := d
  exact ⟨⟨ns, b, DealAt.new d n⟩, (fun z => by have h := d.hp; rw [← z, n] at h; cases h), (fun z => by have h := d.hq; rw [← z, n] at h; cases h)⟩
theorem Deal.off {H : Hp} {p q a : Addr} {o : HO} (d : Deal H p q) (h1 : a ≠ p) (h2 : a ≠ q) : Deal (upd H a o) p q := by
  obtain ⟨ns, b, d⟩ := d
  exact ⟨ns, b, by rw [upd_ne (Ne.symm h1)]; exact d.hp, by rw [upd_ne (Ne.symm h2)]; exact d.hq, d.ne, d.nn, d.len, d.b0, d.b1⟩
theorem Fix.upd {p q D : Addr} {H H' : Hp} {o : HO} (f : Fix p q H H') (n : H D = none) : Fix p q H (L2.upd H' D o) := fun c u h1 h2 h => by
  rw [upd_ne (fun z => by rw [z, n] at h; cases h)]
  exact f c u h1 h2 h
theorem Fix.keep {H H' : Hp} {p q a : Addr} {o : HO} (f : Fix p q H H') (d : Deal H p q) (h : H a = some o) (n : ∀ xs, o ≠ .lst xs) : H' a = some o := by
  obtain ⟨ns, b, d⟩ := d
  refine f a o (fun e => ?_) (fun e => ?_) h
  · rw [e, d.hp] at h; exact n _ (Option.some.inj h).symm
  · rw [e, d.hq] at h; exact n _ (Option.some.inj h).symm
theorem Fix.free {H H' : Hp} {p q a : Addr} (f : Fix p q H H') (d : Deal H' p q) (h : H' a = none) : H a = none := by
  cases e : H a with
  | none => rfl
  | some o =>
    obtain ⟨ns, b, d⟩ := d
    by_cases h1 : a = p
    · rw [h1, d.hp] at h; cases h
    · by_cases h2 : a = q
      · rw [h2, d.hq] at h; cases h
      · rw [f a o h1 h2 e] at h; cases h
theorem map_erase {α β : Type} (f : α → β) : ∀ (l : List α) (i : Nat), (l.map f).eraseIdx i = (l.eraseIdx i).map f
  | [], _ => rfl
  | x :: l, 0 => rfl
  | x :: l, i + 1 => by
    show f x :: (l.map f).eraseIdx i = f x :: (l.eraseIdx i).map f
    rw [map_erase f l i]
theorem erase_perm {α : Type} : ∀ (l : List α) (i : Nat) (h : i < l.length), (l[i] :: l.eraseIdx i).Perm l
  | x :: l, 0, _ => List.Perm.refl _
  | x :: l, i + 1, h => by
    have h' : i < l.length := by simpa using h
    show (l[i] :: x :: l.eraseIdx i).Perm (x :: l)
    exact (List.Perm.swap x l[i] (l.eraseIdx i)).trans ((erase_perm l i h').cons x)
theorem seqIx {i : Int} {n : Nat} (h0 : 0 ≤ i) (h1 : i < n) : seqIndex? i n = some i.toNat := by
  have h : ixN n i = some i.toNat := by
    unfold ixN
    rw [if_pos h0]
    first
      | (rw [if_pos (by omega)])
      | (split <;> first | rfl | omega)
  exact (ixN_seq h).1
theorem Deal.nes {H : Hp} {p q a : Addr} (d : Deal H p q) (n : H a = none) : a ≠ p ∧ a ≠ q := by
  obtain ⟨ns, b, d⟩ := d
  exact ⟨(fun z => by have h := d.hp; rw [← z, n] at h; cases h), (fun z => by have h := d.hq; rw [← z, n] at h; cases h)⟩
/-! ### sorted pairs -/
def pairO : Option HO → Int × Int
  | some (.tup [.int a, .int b]) => (a, b)
  | _ => (0, 0)
def keyOf (H : Hp) : V → Int × Int
  | .ref t => pairO (H t)
  | _ => (0, 0)
theorem keyOf_at {H : Hp} {t : Addr} {e : Int × Int} (h : PairAt H t e) : keyOf H (.ref t) = e := by
  show pairO (H t) = e
  have h : H t = _ := h
  rw [h]; rfl
def addrOf : V → Addr
  | .ref t => t
  | _ => 0
theorem rd_sortedP {K : PySem.W.Frag} {H : Hp} {Q : VK} {a : Addr} {ps : List Addr} {L : List (Int × Int)} (ha : H a = some (.lst (ps.map V.ref))) (hp : Paired (PairAt H) ps L) (nd : L.Nodup)
    (h : ∀ (qs : List Addr) (L' : List (Int × Int)), L'.Perm L → L'.Pairwise lexlt → Paired (PairAt H) qs L' → NewO H (.lst (qs.map V.ref)) Q) : rSortedPO K [.ref a] H Q := by
  have mem : ∀ x ∈ ps.map V.ref, ∃ t, x = V.ref t ∧ PairAt H t (keyOf H x) := fun x hx => by
    obtain ⟨t, ht, rfl⟩ := List.mem_map.mp hx
    obtain ⟨i, hi⟩ := List.getElem?_of_mem ht
    obtain ⟨e, _, he⟩ := paired_get hp hi
    exact ⟨t, rfl, by rw [keyOf_at he]; exact he⟩
  have keys : (ps.map V.ref).map (keyOf H) = L := by
    clear ha h nd mem
    induction hp with
    | nil => rfl
    | cons x _ ih => rw [List.map_cons, List.map_cons, ih, keyOf_at x]
  refine ⟨a, _, keyOf H, rfl, SqL.of ha, fun x hx => mem x hx, fun ys p srt stb hpn => ?_⟩
  have my : ∀ y ∈ ys, ∃ t, y = V.ref t ∧ PairAt H t (keyOf H y) := fun y hy => mem y (stb.perm.mem_iff.mp hy)
  have ey : (ys.map addrOf).map V.ref = ys := by
    clear stb srt
    induction ys with
    | nil => rfl
    | cons y ys ih =>
      obtain ⟨t, rfl, _⟩ := my y List.mem_cons_self
      rw [List.map_cons, List.map_cons, ih fun z hz => my z (List.mem_cons_of_mem _ hz)]
      rfl
  have py : Paired (PairAt H) (ys.map addrOf) (ys.map (keyOf H)) := by
    clear stb srt ey
    induction ys with
    | nil => exact .nil
    | cons y ys ih =>
      obtain ⟨t, rfl, ht⟩ := my y List.mem_cons_self
      exact .cons ht (ih fun z hz => my z (List.mem_cons_of_mem _ hz))
  have pm : (ys.map (keyOf H)).Perm L := by rw [← keys]; exact stb.perm.map _
  have lx : (ys.map (keyOf H)).Pairwise lexlt := by
    have ndy : (ys.map (keyOf H)).Pairwise (· ≠ ·) := pm.nodup_iff.mpr nd
    have s1 : (ys.map (keyOf H)).Pairwise fun e f => SrtO.lexB f e = false := List.pairwise_map.mpr srt
    exact (s1.and ndy).imp fun {e f} ⟨h1, h2⟩ => by
      have h3 := SrtO.lexB_no.mp h1
      obtain ⟨e1, e2⟩ := e
      obtain ⟨f1, f2⟩ := f
      have h4 : ¬ (e1 = f1 ∧ e2 = f2) := fun ⟨a, b⟩ => h2 (by rw [a, b])
      unfold lexlt
      simp only at h3 ⊢
      omega
  have := new_of (h (ys.map addrOf) (ys.map (keyOf H)) pm lx py) p hpn
  rw [ey] at this
  exact this
/-! ### what _law_links tells, by its form -/
def stepsOf (f n : Int) : List Int := if f = 0 then [1] else if f = 1 then [1] else if f = 2 then [1, 2] else if f = 3 then [1, n / 2] else []
def pairOf (a b : Int) : Int × Int := (if b < a then b else a, if b > a then b else a)
def stepC (n one : Int) (L : List (Int × Int)) (step : Int) : List (Int × Int) :=
  if one = (one + step) % n then L else if pairOf one ((one + step) % n) ∈ L then L else L ++ [pairOf one ((one + step) % n)]
def circ (n : Int) (steps : List Int) (i : Nat) : List (Int × Int) := (List.range i).foldl (fun L one => steps.foldl (stepC n (one : Nat)) L) []
def goodB (n d : Nat) (L : List (Int × Int)) : Bool :=
  L.all (fun e => decide (0 ≤ e.1) && (decide (e.1 < e.2) && decide (e.2 < (n : Int)))) && (decide L.Nodup && (List.range n).all fun s => decide ((L.filter (inc (s : Int))).length ≤ d))
theorem goodB_ok {n d : Nat} {L : List (Int × Int)} (h : goodB n d L = true) : Good n d L := by
  unfold goodB at h
  rw [Bool.and_eq_true, Bool.and_eq_true] at h
  obtain ⟨h1, h2, h3⟩ := h
  have rng : ∀ e ∈ L, 0 ≤ e.1 ∧ e.1 < e.2 ∧ e.2 < n := fun e he => by
    have := List.all_eq_true.mp h1 e he
    simpa using this
  refine ⟨rng, of_decide_eq_true h2, fun s => ?_⟩
  by_cases hs : 0 ≤ s ∧ s < n
  · have := List.all_eq_true.mp h3 s.toNat (List.mem_range.mpr (by omega))
    have e : ((s.toNat : Nat) : Int) = s := by omega
    rw [e] at this
    exact of_decide_eq_true this
  · have : L.filter (inc s) = [] := List.filter_eq_nil_iff.mpr fun e he => by
      obtain ⟨a, b, c⟩ := rng e he
      unfold inc
      simp
      omega
    rw [this]; exact Nat.zero_le _
theorem circ_good : ∀ n : Nat, 1 ≤ n → n < 10 → ∀ f : Nat, f < 4 → goodB n 4 (circ n (stepsOf f n) n) = true := by
  have h : ((List.range 10).all fun n => (List.range 4).all fun f => n == 0 || goodB n 4 (circ n (stepsOf f n) n)) = true := by decide +kernel
  intro n h1 h2 f hf
  have a := List.all_eq_true.mp h n (List.mem_range.mpr h2)
  have b := List.all_eq_true.mp a f (List.mem_range.mpr hf)
  have z : (n == 0) = false := by simp; omega
  rw [z, Bool.false_or] at b
  exact b
end K10

namespace K10
open PySem PySem.Spec PyProof.Rows L2 KX
theorem rd_for {wi : TI} {g : TG} {tb : TS} {D : Ends} {σ : L2.St} {H : Hp} (h : wi σ H fun J H1 => ∃ W : Nat → Nat → L2.St → Hp → Prop, (∃ m, W 0 m σ H1) ∧ ∀ i m σ H, W i m σ H →
    (J.stop i H ∧ D.nx σ H) ∨ (J.go i H ∧ ∃ N : L2.St → Hp → Prop, (∀ σ' H', N σ' H' → ∃ m', m' < m ∧ W (i + 1) m' σ' H') ∧ ∀ x H', J.yld i H x H' → g x σ H' fun σ2 H2 => tb { D with nx := N, ct := N, bk := D.nx } σ2 H2)) : tFor wi g tb D σ H := h
theorem rd_lc {wi : TI} {g : TG} {tt : TT} {te : TE} {vs : List Nat} {σ : L2.St} {H : Hp} {Q : VK} (h : wi σ H fun J H1 => ∀ D, H1 D = none → ∃ W : Nat → Nat → Hp → Prop, (∃ m, W 0 m (upd H1 D (.lst []))) ∧ ∀ i m H, W i m H →
    (J.stop i H ∧ Q (.ref D) H) ∨ (J.go i H ∧ ∃ Nx : Hp → Prop, (∀ H', Nx H' → ∃ m', m' < m ∧ W (i + 1) m' H') ∧ ∀ x H', J.yld i H x H' → g x (wipe σ vs) H' fun σ2 H2 => wipe σ2 vs = wipe σ vs ∧ tt σ2 H2 fun b H3 =>
      if b = true then te σ2 H3 fun y H4 => ∃ acc, H4 D = some (.lst acc) ∧ acc.length < sizeLine ∧ Nx (upd H4 D (.lst (acc ++ [y]))) else Nx H3)) : tLc wi g tt te vs σ H Q := h
local macro_rules | `(tactic| walk_at "rd1") => `(tactic| first
  | with_reducible refine rd_seq ?_
  | with_reducible refine rd_for ?_
  | with_reducible refine rd_lc ?_
  | with_reducible refine rd_asg ?_
  | ((with_reducible refine' rd_var ?rdv ?_); (case rdv => exact rfl))
  | with_reducible refine rd_c ?_
  | with_reducible refine rd_op ?_
  | with_reducible refine rd_un ?_
  | with_reducible refine rd_cons ?_
  | with_reducible refine rd_nil ?_
  | with_reducible refine rd_call ?_
  | with_reducible refine rd_cb ?_
  | with_reducible refine rd_tB ?_
  | with_reducible refine rd_test ?_
  | with_reducible refine rd_bl ?_
  | with_reducible refine rd_rI0 ?_
  | with_reducible refine rd_eqI ?_
  | with_reducible refine rd_neI ?_
  | with_reducible refine rd_rU ?_
  | with_reducible refine rd_name ?_
  | with_reducible refine rd_ifs ?_
  | with_reducible refine rd_and ?_
  | with_reducible refine rd_or ?_
  | with_reducible refine rd_not ?_
  | with_reducible refine rd_yes ?_
  | with_reducible refine rd_andV ?_
  | with_reducible refine rd_orV ?_
  | with_reducible refine rd_notV ?_
  | with_reducible refine rd_if ?_
  | with_reducible refine rd_isN ?_
  | with_reducible refine rd_iT ?_
  | with_reducible refine rd_iF ?_
  | with_reducible refine rd_ret ?_
  | with_reducible refine rd_retN ?_
  | with_reducible refine rd_drop ?_
  | with_reducible refine rd_next ?_
  | with_reducible refine rd_cont ?_
  | with_reducible refine rd_brk ?_
  | with_reducible refine rd_nx ?_
  | with_reducible refine rd_rt ?_
  | with_reducible refine rd_ct ?_
  | with_reducible refine rd_bk ?_
  | with_reducible refine rd_par ?_
  | with_reducible refine rd_par3 ?_
  | with_reducible refine rd_par2 ?_
  | with_reducible refine rd_par33 ?_
  | with_reducible refine rd_gcons ?_
  | with_reducible refine rd_gnil ?_
  | with_reducible refine rd_sub ?_
  | with_reducible refine rd_tup ?_
  | with_reducible refine rd_lst ?_
  | ((with_reducible refine rd_tupT ?hl ?_); (case hl => exact Nat.le_of_ble_eq_true rfl))
  | ((with_reducible refine rd_lstT ?hl ?_); (case hl => exact Nat.le_of_ble_eq_true rfl))
  | with_reducible refine rd_bm ?_
  | with_reducible refine rd_bm0 ?_
  | with_reducible refine rd_sl ?_
  | with_reducible refine rd_noP ?_
  | with_reducible refine rd_part ?_
  | with_reducible refine rd_int ?_
  | with_reducible refine rd_int1 ?_
  | with_reducible refine rd_fld ?_
  | with_reducible refine rd_then ?_
  | with_reducible refine rd_raise ?_
  | with_reducible refine rd_one ?_
  | with_reducible refine rd_sfld ?_
  | with_reducible refine rd_ilist ?_
  | with_reducible refine rd_itup ?_
  | with_reducible refine rd_rng1 ?_
  | with_reducible refine rd_enum ?_
  | with_reducible refine rd_enumT ?_)
local macro_rules | `(tactic| walk_at "rd") => `(tactic| repeat (walk_at "rd1"))
/-- the list of links under way -/
def LkInv (p q l : Addr) (H H' : Hp) (L : List (Int × Int)) : Prop := Deal H' p q ∧ Fix p q H H' ∧ ∃ ps : List Addr, H' l = some (.lst (ps.map V.ref)) ∧ Paired (PairAt H') ps L
theorem pairs_same {H H' : Hp} {ps : List Addr} {L : List (Int × Int)} (h : Paired (PairAt H) ps L) (s : Same H H') : Paired (PairAt H') ps L := paired_mono h fun _ _ z => s _ _ z
theorem pairs_upd {H : Hp} {l : Addr} {xs ys : List V} {ps : List Addr} {L : List (Int × Int)} (h : Paired (PairAt H) ps L) (hl : H l = some (.lst xs)) : Paired (PairAt (upd H l (.lst ys))) ps L :=
  paired_mono h fun a b z => by
    have z : H a = some _ := z
    show upd H l _ a = some _
    rw [upd_ne (fun e => by rw [e, hl] at z; cases z)]
    exact z
theorem pairs_snoc {H : Hp} {t : Addr} {e : Int × Int} : ∀ {ps : List Addr} {L : List (Int × Int)}, Paired (PairAt H) ps L → PairAt H t e → Paired (PairAt H) (ps ++ [t]) (L ++ [e]) := fun h a => by
  induction h with
  | nil => exact .cons a .nil
  | cons x _ ih => exact .cons x ih
theorem LkInv.same {p q l : Addr} {H H1 H2 : Hp} {L : List (Int × Int)} (h : LkInv p q l H H1 L) (s : Same H1 H2) : LkInv p q l H H2 L := by
  obtain ⟨d, f, ps, h1, h2⟩ := h
  exact ⟨d.same s, f.trans (Fix.same s), ps, s _ _ h1, pairs_same h2 s⟩
theorem LkInv.fix {p q l : Addr} {H H1 H2 : Hp} {L : List (Int × Int)} (h : LkInv p q l H H1 L) (lp : l ≠ p) (lq : l ≠ q) (d : Deal H2 p q) (s : Fix p q H1 H2) : LkInv p q l H H2 L := by
  obtain ⟨d1, f, ps, h1, h2⟩ := h
  exact ⟨d, f.trans s, ps, s _ _ lp lq h1, paired_mono h2 fun a b z => Fix.keep s d1 z (fun _ e => by cases e)⟩
theorem LkInv.app {p q l t : Addr} {H H1 : Hp} {L : List (Int × Int)} {e : Int × Int} (h : LkInv p q l H H1 L) (lp : l ≠ p) (lq : l ≠ q) (l0 : H l = none) (ht : PairAt H1 t e) :
    ∃ xs, H1 l = some (.lst xs) ∧ xs.length = L.length ∧ LkInv p q l H (upd H1 l (.lst (xs ++ [.ref t]))) (L ++ [e]) := by
  obtain ⟨d, f, ps, h1, h2⟩ := h
  refine ⟨_, h1, by rw [List.length_map, paired_len h2], d.off lp lq, f.upd l0, ps ++ [t], by rw [upd_same]; simp, ?_⟩
  exact pairs_upd (pairs_snoc h2 ht) h1
theorem rd_notInP {K : PySem.W.Frag} {H : Hp} {t l : Addr} {e : Int × Int} {ps : List Addr} {L : List (Int × Int)} {Q : VK} (ht : PairAt H t e) (hl : H l = some (.lst (ps.map V.ref))) (hp : Paired (PairAt H) ps L)
    (h : Q (.bl (!decide (e ∈ L))) H) : rNotInD K (.ref t) (.ref l) H Q :=
  ⟨dP e, L.map dP, dp_pair ht, .lst (SqL.of hl) (dp_pairs hp), dP_sh1 e, dP_shL L, by rw [dP_any]; exact h⟩
theorem stepC_len (n one : Int) (L : List (Int × Int)) (s : Int) : (stepC n one L s).length ≤ L.length + 1 := by
  unfold stepC
  split
  · omega
  · split
    · omega
    · simp
theorem fold_snoc {α β : Type} (f : α → β → α) (a : α) (l : List β) (i : Nat) (x : β) (h : l[i]? = some x) : (l.take (i + 1)).foldl f a = f ((l.take i).foldl f a) x := by
  rw [List.take_succ, h]
  simp [List.foldl_append]
theorem circ_succ (n : Int) (steps : List Int) (i : Nat) : circ n steps (i + 1) = steps.foldl (stepC n (i : Nat)) (circ n steps i) := by
  unfold circ
  rw [List.range_succ, List.foldl_append]
  rfl
theorem circ_nil (n : Int) : ∀ i, circ n [] i = []
  | 0 => rfl
  | i + 1 => by rw [circ_succ, circ_nil n i]; rfl
theorem fold_len (n one : Int) : ∀ (steps : List Int) (L : List (Int × Int)), (steps.foldl (stepC n one) L).length ≤ L.length + steps.length
  | [], L => Nat.le_refl _
  | s :: ss, L => by
    have h1 := fold_len n one ss (stepC n one L s)
    have h2 := stepC_len n one L s
    simp only [List.foldl_cons, List.length_cons]
    omega
theorem circ_len (n : Int) (steps : List Int) (hs : steps.length ≤ 2) : ∀ i, (circ n steps i).length ≤ 2 * i
  | 0 => Nat.le_refl _
  | i + 1 => by
    rw [circ_succ]
    have h1 := circ_len n steps hs i
    have h2 := fold_len n (i : Nat) steps (circ n steps i)
    omega
theorem steps_len (f n : Int) : (stepsOf f n).length ≤ 2 := by
  unfold stepsOf
  split
  · decide
  · split
    · decide
    · split
      · decide
      · split
        · simp
        · decide
theorem inc_in (s : Int) (e : Int × Int) : decide (s ∈ [e.1, e.2]) = inc s e := by
  unfold inc
  by_cases h1 : e.1 = s
  · simp [h1]
  · by_cases h2 : e.2 = s
    · simp [h2]
    · have h1' : ¬ s = e.1 := fun z => h1 z.symm
      have h2' : ¬ s = e.2 := fun z => h2 z.symm
      simp [h1, h2, h1', h2']
/-- links drawn one by one: the greater site first, then the lesser one -/
structure Bf (o i : Nat) (L : List (Int × Int)) : Prop where
  rng : ∀ e ∈ L, 0 ≤ e.1 ∧ e.1 < e.2 ∧ (e.2 < o ∨ e.2 = o ∧ e.1 < i)
  nd : L.Nodup
  deg : ∀ s : Int, (L.filter (inc s)).length ≤ 4
  len : L.length ≤ 10 * o + i
theorem Bf.skip {o i : Nat} {L : List (Int × Int)} (h : Bf o i L) : Bf o (i + 1) L :=
  ⟨fun e he => by have := h.rng e he; omega, h.nd, h.deg, by have := h.len; omega⟩
theorem Bf.next {o : Nat} {L : List (Int × Int)} (h : Bf o o L) (ho : o < 10) : Bf (o + 1) 0 L :=
  ⟨fun e he => by have := h.rng e he; omega, h.nd, h.deg, by have := h.len; omega⟩
theorem Bf.app {o i : Nat} {L : List (Int × Int)} (h : Bf o i L) (hi : i < o) (d1 : (L.filter (inc (i : Nat))).length < 4) (d2 : (L.filter (inc (o : Nat))).length < 4) : Bf o (i + 1) (L ++ [(((i : Nat) : Int), ((o : Nat) : Int))]) := by
  refine ⟨fun e he => ?_, ?_, fun s => ?_, by have := h.len; simp; omega⟩
  · rcases List.mem_append.mp he with z | z
    · have := h.rng e z; omega
    · rw [List.mem_singleton.mp z]
      show (0 : Int) ≤ (i : Nat) ∧ ((i : Nat) : Int) < (o : Nat) ∧ _
      omega
  · refine List.nodup_append.mpr ⟨h.nd, by simp, fun a ha b hb => ?_⟩
    rw [List.mem_singleton.mp hb]
    intro z
    have := h.rng a ha
    rw [z] at this
    simp at this
  · rw [List.filter_append, List.length_append]
    have h1 := h.deg s
    by_cases c1 : ((i : Nat) : Int) = s
    · rw [← c1]
      have : ([(((i : Nat) : Int), ((o : Nat) : Int))].filter (inc ((i : Nat) : Int))).length ≤ 1 := List.length_filter_le _ _
      omega
    · by_cases c2 : ((o : Nat) : Int) = s
      · rw [← c2]
        have : ([(((i : Nat) : Int), ((o : Nat) : Int))].filter (inc ((o : Nat) : Int))).length ≤ 1 := List.length_filter_le _ _
        omega
      · have : [(((i : Nat) : Int), ((o : Nat) : Int))].filter (inc s) = [] := by
          simp [inc, c1, c2]
        rw [this]; simpa using h1
theorem Bf.good {n : Nat} {L : List (Int × Int)} (h : Bf n 0 L) : Good n 4 L :=
  ⟨fun e he => by have := h.rng e he; omega, h.nd, h.deg⟩
theorem Good.perm {n d : Nat} {L M : List (Int × Int)} (h : Good n d L) (p : M.Perm L) : Good n d M :=
  ⟨fun e he => h.rng e (p.mem_iff.mp he), p.nodup_iff.mpr h.nd, fun s => by rw [perm_filter_len p (inc s)]; exact h.deg s⟩
def spLk : Sp := fun vs H Q _ => ∃ (p q : Addr) (n : Nat), vs = [.ref p, .int (n : Nat)] ∧ Deal H p q ∧ 1 ≤ n ∧ n < 10 ∧
  ∀ (H' : Hp) (l : Addr) (ps : List Addr) (L : List (Int × Int)), Deal H' p q → Fix p q H H' → H l = none → l ≠ p → l ≠ q → H' l = some (.lst (ps.map V.ref)) → Paired (PairAt H') ps L → Good n 4 L → L.Pairwise lexlt → Q (.ref l) H'
section
variable {P : Program} {w : World} {K : PySem.W.Frag} {mg : Str → Option Value} {base : Heap} (T : TX K mg)
theorem G__law_links : FnOk P w K mg base CX0 2 T.f__law_links T.d__law_links ["_law_deal", "_law_many"] spLk := by
  refine T.F__law_links.ok sc__law_links (fun vs H Q E h => ?_) fun cdv A outer s H vs Q E hr h => ⟨_, (pss_cons (ps_asg (pe_tup (pa_cons (pe_call (G__law_any T) (hr.mono (by decide)) (by rfl) T.m__law_any T.F__law_any.kp T.b__law_any .nil pass0 (by exact (pa_cons (pv 0) (pa_cons pe_int pa_nil)))) (pa_cons (pe_lst pa_nil) (pa_cons (pe_op op_add pe_int (pe_call (G__law_any T) (hr.mono (by decide)) (by rfl) T.m__law_any T.F__law_any.kp T.b__law_any .nil pass0 (by exact (pa_cons (pv 0) (pa_cons pe_int pa_nil))))) pa_nil)))) (pg_tupK (K := K) (n := 3) (by rfl) (pgs_cons (pg_name (i := 2) sc__law_links.nd rfl (.inl rfl)) (pgs_cons (pg_name (i := 3) sc__law_links.nd rfl (.inr rfl)) (pgs_cons (pg_name (i := 4) sc__law_links.nd rfl (.inl rfl)) pgs_nil))))) (pss_cons (ps_set (i := 5) sc__law_links.nd rfl (.inl rfl) (pe_ix (ix_listK (K := K)) (pe_lst (pa_cons (pe_lst (pa_cons pe_int pa_nil)) (pa_cons (pe_lst (pa_cons pe_int pa_nil)) (pa_cons (pe_lst (pa_cons pe_int (pa_cons pe_int pa_nil))) (pa_cons (pe_lst (pa_cons pe_int (pa_cons (pe_op op_fdiv (pv 1) pe_int) pa_nil))) (pa_cons (pe_lst pa_nil) (pa_cons (pe_lst pa_nil) pa_nil))))))) (pv 2) (fun _ _ => rfl))) (pss_cons (ps_for PassesOwn.never rfl (pi_range1 (by rfl) T.n_range (by exact (pa_cons (pv 1) pa_nil))) (pg_name (i := 6) sc__law_links.nd rfl (.inl rfl)) (pss_one (ps_for PassesOwn.never rfl (pi_listK (K := K) (pv 5)) (pg_name (i := 7) sc__law_links.nd rfl (.inl rfl)) (pss_cons (ps_set (i := 8) sc__law_links.nd rfl (.inl rfl) (pe_op op_mod (pe_callTy call_int1 (by rfl) T.n_int (by decide +kernel) (by exact (pa_cons (pe_op op_add (pv 6) (pv 7)) pa_nil))) (pv 1))) (pss_one (ps_if (PW.pt (pw_and (pt_cmpR op_ne (pv 6) (pv 8) (nomark _)) (pw_and1 (pt_cmpR (op_notInDK (K := K) (KX.Room.u65 hr)) (pe_tup (pa_cons (pe_callB (call_min2 rfl) (by rfl) T.n_min (by decide +kernel) (by exact (pa_cons (pv 6) (pa_cons (pv 8) pa_nil)))) (pa_cons (pe_callB (call_max2 rfl) (by rfl) T.n_max (by decide +kernel) (by exact (pa_cons (pv 6) (pa_cons (pv 8) pa_nil)))) pa_nil))) (pv 3) (by rfl))))) (pss_one (ps_expr (pe_bmK (K := K) PySem.F.slot_list_append PySem.F.type_list_append mt_append (pv 3) (by exact (pa_cons (pe_tup (pa_cons (pe_callB (call_min2 rfl) (by rfl) T.n_min (by decide +kernel) (by exact (pa_cons (pv 6) (pa_cons (pv 8) pa_nil)))) (pa_cons (pe_callB (call_max2 rfl) (by rfl) T.n_max (by decide +kernel) (by exact (pa_cons (pv 6) (pa_cons (pv 8) pa_nil)))) pa_nil))) pa_nil))))) pss_nil)))))) (pss_cons (ps_if (pt_cmpR op_gt (pv 2) pe_int (nomark _)) (pss_one (ps_for PassesOwn.never rfl (pi_range1 (by rfl) T.n_range (by exact (pa_cons (pv 1) pa_nil))) (pg_name (i := 8) sc__law_links.nd rfl (.inl rfl)) (pss_one (ps_for PassesOwn.never rfl (pi_range1 (by rfl) T.n_range (by exact (pa_cons (pv 8) pa_nil))) (pg_name (i := 6) sc__law_links.nd rfl (.inl rfl)) (pss_cons (ps_setLc (i := 9) (own := [("_law_site", 10)]) (by rfl) sc__law_links.nd rfl rfl (sw_true rfl rfl rfl (by decide +kernel)) (pi_tupK (K := K) (pe_tup (pa_cons (pv 6) (pa_cons (pv 8) pa_nil)))) (blkOk_by (own := [("_law_site", 10)]) (N := N__law_links) (sc := defScope s__law_links) (by decide +kernel)) (fun _ _ _ _ _ => (pg_name (i := 10) sc__law_links.nd rfl (.inr rfl))) (fun _ _ _ _ _ => pts_nil) (fun _ _ _ _ _ => (pe_callB (cr_lenK (K := K)) (by rfl) T.n_len (by decide +kernel) (by exact (pa_cons (by exact (pe_lc (own := [("_law_link", 11)]) (by rfl) sc__law_links.nd (pi_listK (K := K) (pv 3)) (blkOk_by (own := [("_law_link", 11)]) (N := N__law_links) (sc := ({ kind := PySem.ScopeKind.function, names := [(PySem.Str.ofString ".0", PySem.NameKind.local), (PySem.Str.ofString "_law_site", PySem.NameKind.cell), (PySem.Str.ofString "len", PySem.NameKind.globalImplicit), (PySem.Str.ofString "_law_links_here", PySem.NameKind.cell)], isGenerator := false, isCoroutine := false, more := [] } : PySem.Scope)) (by decide +kernel)) (fun _ _ _ _ _ => (pg_name (i := 11) sc__law_links.nd rfl (.inl rfl))) (fun _ _ _ _ _ => pts_one (pt_cmpR (op_inK (K := K)) (pv 10) (pv 11) (by rfl))) (fun _ _ _ _ _ => (pv 11)) )) pa_nil)))) ) (pss_one (ps_if (PW.pt (pw_and (pt_cmpR op_lt (pe_callB (cr_maxK (K := K) rfl) (by rfl) T.n_max (by decide +kernel) (by exact (pa_cons (pv 9) pa_nil))) (pv 4) (nomark _)) (pw_and1 (pt_cmpR op_gt (pe_call (G__law_any T) (hr.mono (by decide)) (by rfl) T.m__law_any T.F__law_any.kp T.b__law_any .nil pass0 (by exact (pa_cons (pv 0) (pa_cons pe_int pa_nil)))) pe_int (nomark _))))) (pss_one (ps_expr (pe_bmK (K := K) PySem.F.slot_list_append PySem.F.type_list_append mt_append (pv 3) (by exact (pa_cons (pe_tup (pa_cons (pv 6) (pa_cons (pv 8) pa_nil))) pa_nil))))) pss_nil))))))) pss_nil) (pss_one (ps_ret (pe_callB (cr_sortedPOK (K := K)) (by rfl) T.n_sorted (by decide +kernel) (by exact (pa_cons (pv 3) pa_nil))))))))), ?_⟩
  · obtain ⟨p, q, n, rfl, _⟩ := h
    rfl
  · obtain ⟨p, q, n, rfl, d, n1, n10, hQ⟩ := h
    walk_at "rd"
    refine ⟨p, q, 6, rfl, d, by decide, by decide, fun H1 f d1 f1 f0 f6 => ?_⟩
    walk_at "rd"
    intro l H2 l0 S2 hl
    have d2 := d1.same S2
    obtain ⟨lp, lq⟩ := d1.nes l0
    have l00 := f1.free d1 l0
    walk_at "rd"
    refine ⟨p, q, 4, rfl, d2, by decide, by decide, fun H3 m d3 f3 m0 m4 => ?_⟩
    have hl3 := f3 _ _ lp lq hl
    have F3 : Fix p q H H3 := f1.trans ((Fix.same S2).trans f3)
    walk_at "rd"
    intro t H4 t0 S4 ht
    refine rd_gtup (Tup.of ht) rfl ?_
    walk_at "rd"
    intro a0 H5 n5 S5 e0
    walk_at "rd"
    intro a1 H6 n6 S6 e1
    walk_at "rd"
    intro a2 H7 n7 S7 e2
    walk_at "rd"
    refine rd_rI ⟨by decide, by decide⟩ ?_
    walk_at "rd"
    intro a3 H8 n8 S8 e3
    walk_at "rd"
    intro a4 H9 n9 S9 e4
    walk_at "rd"
    intro a5 H10 n10' S10 e5
    walk_at "rd"
    intro a6 H11 n11 S11 e6
    have S411 := ((((((S4.trans S5).trans S6).trans S7).trans S8).trans S9).trans S10).trans S11
    have hl11 := S411 _ _ hl3
    obtain ⟨as, hst, has, asl⟩ : ∃ as, atI [V.ref a0, V.ref a1, V.ref a2, V.ref a3, V.ref a4, V.ref a5] f = some (.ref as) ∧ H11 as = some (.lst ((stepsOf f n).map V.int)) ∧ as ≠ l := by
      have hf : f = 0 ∨ f = 1 ∨ f = 2 ∨ f = 3 ∨ f = 4 ∨ f = 5 := by omega
      have h4 := S4 _ _ hl3
      have h5 := S5 _ _ h4
      have h6 := S6 _ _ h5
      have h7 := S7 _ _ h6
      have h8 := S8 _ _ h7
      have h9 := S9 _ _ h8
      rcases hf with rfl | rfl | rfl | rfl | rfl | rfl
      · exact ⟨a0, rfl, (((((S6.trans S7).trans S8).trans S9).trans S10).trans S11) _ _ e0, fun z => by rw [z, h4] at n5; cases n5⟩
      · exact ⟨a1, rfl, ((((S7.trans S8).trans S9).trans S10).trans S11) _ _ e1, fun z => by rw [z, h5] at n6; cases n6⟩
      · exact ⟨a2, rfl, (((S8.trans S9).trans S10).trans S11) _ _ e2, fun z => by rw [z, h6] at n7; cases n7⟩
      · exact ⟨a3, rfl, ((S9.trans S10).trans S11) _ _ e3, fun z => by rw [z, h7] at n8; cases n8⟩
      · exact ⟨a4, rfl, (S10.trans S11) _ _ e4, fun z => by rw [z, h8] at n9; cases n9⟩
      · exact ⟨a5, rfl, S11 _ _ e5, fun z => by rw [z, h9] at n10'; cases n10'⟩
    walk_at "rd"
    refine rd_ixL e6 hst ?_
    walk_at "rd"
    have I0 : LkInv p q l H H11 [] := ⟨d3.same S411, F3.trans (Fix.same S411), [], hl11, .nil⟩
    generalize hsp : stepsOf f n = sp at has
    have spl : sp.length ≤ 2 := by rw [← hsp]; exact steps_len f n
    refine ⟨by omega, by omega, ?_⟩
    refine for_range (lo := 0) (n := n) (fun i σ H' => (∃ o6 o7 o8 o9 o10 o11, σ = [some (.ref p), some (.int (n : Nat)), some (.int f), some (.ref l), some (.int (1 + m)), some (.ref as), o6, o7, o8, o9, o10, o11]) ∧
      LkInv p q l H H' (circ n sp i) ∧ H' as = some (.lst (sp.map V.int))) ⟨⟨_, _, _, _, _, _, rfl⟩, I0, has⟩ (fun i σ H' hi pv => ?_) (fun σ H' pv => ?_)
    · obtain ⟨⟨o6, o7, o8, o9, o10, o11, rfl⟩, I, ha⟩ := pv
      walk_at "rd"
      refine ⟨as, rfl, ⟨_, SqL.of ha⟩, ?_⟩
      refine for_list (xs := sp.map V.int) (fun j σ H' => (∃ o7 o8 o9 o10 o11, σ = [some (.ref p), some (.int (n : Nat)), some (.int f), some (.ref l), some (.int (1 + m)), some (.ref as), some (.int (0 + (i : Nat))), o7, o8, o9, o10, o11]) ∧
        LkInv p q l H H' ((sp.take j).foldl (stepC n (i : Nat)) (circ n sp i)) ∧ H' as = some (.lst (sp.map V.int))) ⟨⟨_, _, _, _, _, rfl⟩, I, ha⟩ (fun j σ H' _ pv => SqL.of pv.2.2) (fun j x σ H' hx pv => ?_) (fun σ H' pv => ?_)
      · obtain ⟨⟨o7, o8, o9, o10, o11, rfl⟩, I, ha⟩ := pv
        rw [List.getElem?_map] at hx
        obtain ⟨st, hs, rfl⟩ := Option.map_eq_some_iff.mp hx
        rw [fold_snoc _ _ _ _ _ hs]
        have lL : ((sp.take j).foldl (stepC n (i : Nat)) (circ n sp i)).length ≤ 100 := by
          have h1 := fold_len n (i : Nat) (sp.take j) (circ n sp i)
          have h2 := circ_len n sp spl i
          have h3 : (sp.take j).length ≤ sp.length := by rw [List.length_take]; omega
          omega
        generalize (sp.take j).foldl (stepC n (i : Nat)) (circ n sp i) = L at I lL
        walk_at "rd"
        refine .inl ⟨_, rfl, ?_⟩
        walk_at "rd"
        refine rd_rI (by omega) ?_
        have z0 : (0 : Int) + (i : Nat) = (i : Nat) := by omega
        have zg : ((0 : Int) + (i : Nat) + st) % (n : Nat) = ((i : Nat) + st) % (n : Nat) := by rw [z0]
        rw [zg, z0]
        have zs : stepC (n : Nat) (i : Nat) L st = if ((i : Nat) : Int) = ((i : Nat) + st) % (n : Nat) then L else if pairOf (i : Nat) (((i : Nat) + st) % (n : Nat)) ∈ L then L else L ++ [pairOf (i : Nat) (((i : Nat) + st) % (n : Nat))] := rfl
        rw [zs]
        generalize (((i : Nat) : Int) + st) % (n : Nat) = ot
        walk_at "rd"
        by_cases h1 : ((i : Nat) : Int) = ot
        · rw [if_pos h1]
          refine iteF' (by simp [h1]) ?_
          walk_at "rd"
          exact ⟨⟨_, _, _, _, _, rfl⟩, I, ha⟩
        · rw [if_neg h1]
          refine iteT' (by simp [h1]) ?_
          walk_at "rd"
          refine ⟨_, _, rfl, ?_⟩
          walk_at "rd"
          refine ⟨_, _, rfl, ?_⟩
          walk_at "rd"
          intro u H12 u0 S12 hu
          have hu : PairAt H12 u (pairOf (i : Nat) ot) := hu
          have I12 := I.same S12
          have ha12 := S12 _ _ ha
          obtain ⟨_, _, ps, hps, hpp⟩ := I12
          walk_at "rd"
          refine rd_notInP hu hps hpp ?_
          walk_at "rd"
          by_cases h2 : pairOf (i : Nat) ot ∈ L
          · rw [if_pos h2]
            refine iteF' (by simp [h2]) ?_
            walk_at "rd"
            exact ⟨⟨_, _, _, _, _, rfl⟩, I.same S12, ha12⟩
          · rw [if_neg h2]
            refine iteT' (by simp [h2]) ?_
            walk_at "rd"
            refine rd_ty hps ?_
            walk_at "rd"
            refine ⟨_, _, rfl, ?_⟩
            walk_at "rd"
            refine ⟨_, _, rfl, ?_⟩
            walk_at "rd"
            intro v H13 v0 S13 hv
            have hv : PairAt H13 v (pairOf (i : Nat) ot) := hv
            obtain ⟨xs, hxs, lxs, I13⟩ := ((I.same S12).same S13).app lp lq l00 hv
            walk_at "rd"
            refine rd_app hxs (by omega) ?_
            walk_at "rd"
            refine ⟨⟨_, _, _, _, _, rfl⟩, I13, ?_⟩
            rw [upd_ne asl]
            exact S13 _ _ ha12
      · obtain ⟨⟨o7, o8, o9, o10, o11, rfl⟩, I, ha⟩ := pv
        rw [List.length_map, List.take_length, ← circ_succ] at I
        walk_at "rd"
        exact ⟨⟨_, _, _, _, _, _, rfl⟩, I, ha⟩
    · obtain ⟨⟨o6, o7, o8, o9, o10, o11, rfl⟩, I, ha⟩ := pv
      have fin : ∀ (H' : Hp) (L : List (Int × Int)) (σ : L2.St), σ[3]? = some (some (V.ref l)) → LkInv p q l H H' L → Good n 4 L → tRet (tCB (rSortedPO K) (tCons (tVar 3) tNil)) { nx := fun x H' => Q V.non H', rt := Q } σ H' := fun H' L σ hσ I g => by
        obtain ⟨d', f', ps, hps, hpp⟩ := I
        refine rd_ret (rd_cb (rd_cons (rd_var hσ (rd_nil ?_))))
        refine rd_sortedP hps hpp g.nd fun qs L' pm srt pr => ?_
        intro a H'' a0 S e
        exact hQ H'' a qs L' (d'.same S) (f'.trans (Fix.same S)) (f'.free d' a0) (d'.nes a0).1 (d'.nes a0).2 e (pairs_same pr S) (g.perm pm) srt
      walk_at "rd"
      by_cases h3 : 3 < f
      · refine iteT' (decide_eq_true h3) ?_
        have spn : sp = [] := by
          rw [← hsp]
          have : f = 4 ∨ f = 5 := by omega
          rcases this with rfl | rfl <;> rfl
        rw [spn, circ_nil] at I
        walk_at "rd"
        refine ⟨by omega, by omega, ?_⟩
        refine for_range (lo := 0) (n := n) (fun o σ H' => (∃ o5 o6 o7 o8 o9 o10 o11, σ = [some (.ref p), some (.int (n : Nat)), some (.int f), some (.ref l), some (.int (1 + m)), o5, o6, o7, o8, o9, o10, o11]) ∧
          ∃ L, LkInv p q l H H' L ∧ Bf o 0 L) ⟨⟨_, _, _, _, _, _, _, rfl⟩, [], I, ⟨by simp, List.nodup_nil, by simp, by simp⟩⟩ (fun o σ H' ho pv => ?_) (fun σ H' pv => ?_)
        · obtain ⟨⟨o5, o6, o7, o8, o9, o10, o11, rfl⟩, L, I, B⟩ := pv
          walk_at "rd"
          refine ⟨by omega, by omega, ?_⟩
          have e0 : ((0 : Int) + (o : Nat)).toNat = o := by omega
          rw [e0]
          refine for_range (lo := 0) (n := o) (fun i σ H' => (∃ o5 o6 o7 o9 o10 o11, σ = [some (.ref p), some (.int (n : Nat)), some (.int f), some (.ref l), some (.int (1 + m)), o5, o6, o7, some (.int (0 + (o : Nat))), o9, o10, o11]) ∧
            ∃ L, LkInv p q l H H' L ∧ Bf o i L) ⟨⟨_, _, _, _, _, _, rfl⟩, L, I, B⟩ (fun i σ H' hi pv => ?_) (fun σ H' pv => ?_)
          · obtain ⟨⟨o5, o6, o7, o9, o10, o11, rfl⟩, L, I, B⟩ := pv
            walk_at "rd"
            intro u H12 u0 S12 hu
            have I12 := I.same S12
            refine ⟨u, rfl, ⟨_, SqT.of hu⟩, fun D hD => ?_⟩
            have lL : L.length ≤ 100 := by have := B.len; omega
            have hD' : H' D = none := S12.free hD
            refine lc_tup (xs := [V.int (0 + (i : Nat)), V.int (0 + (o : Nat))]) (fun j H' => Same H12 H' ∧ H' D = some (.lst (([((i : Nat) : Int), ((o : Nat) : Int)].take j).map fun s => V.int ((L.filter (inc s)).length : Nat))))
              ⟨Same.fresh hD, upd_same⟩ (fun j H' _ pv => SqT.of (pv.1 _ _ hu)) (fun j x H13 hx pv => ?_) (fun H13 pv => ?_)
            · obtain ⟨S13, hD13⟩ := pv
              obtain ⟨s, hs, rfl⟩ : ∃ s : Int, [((i : Nat) : Int), ((o : Nat) : Int)][j]? = some s ∧ x = V.int s := by
                match j, hx with
                | 0, hx => simp at hx; exact ⟨_, rfl, by rw [← hx]⟩
                | 1, hx => simp at hx; exact ⟨_, rfl, by rw [← hx]⟩
                | j + 2, hx => simp at hx
              have I13 := I12.same S13
              obtain ⟨_, _, ps, hps, hpp⟩ := I13
              walk_at "rd"
              refine ⟨rfl, ?_⟩
              walk_at "rd"
              refine ⟨l, rfl, ⟨_, SqL.of hps⟩, fun D2 hD2 => ?_⟩
              refine lc_list (xs := ps.map V.ref) (fun k H' => Same H13 H' ∧ ∃ vs, H' D2 = some (.lst vs) ∧ vs.length = ((L.take k).filter (inc s)).length)
                ⟨Same.fresh hD2, [], upd_same, rfl⟩ (fun k H' _ pv => SqL.of (pv.1 _ _ hps)) (fun k x H14 hx pv => ?_) (fun H14 pv => ?_)
              · obtain ⟨S14, vs, hvs, lv⟩ := pv
                rw [List.getElem?_map] at hx
                obtain ⟨t, ht, rfl⟩ := Option.map_eq_some_iff.mp hx
                obtain ⟨e, he, hte⟩ := paired_get hpp ht
                have hte14 : PairAt H14 t e := S14 _ _ hte
                have hfl : ((L.take (k + 1)).filter (inc s)).length = ((L.take k).filter (inc s)).length + if inc s e = true then 1 else 0 := by
                  rw [List.take_succ, he, List.filter_append, List.length_append]
                  congr 1
                  by_cases z : inc s e = true
                  · simp [z]
                  · simp [z]
                walk_at "rd"
                refine ⟨rfl, ?_⟩
                walk_at "rd"
                refine rd_inI (row := [e.1, e.2]) (.inr (SqT.of hte14)) ?_
                walk_at "rd"
                rw [inc_in]
                by_cases z : inc s e = true
                · refine iteT' z ?_
                  rw [if_pos z] at hfl
                  walk_at "rd"
                  refine ⟨vs, hvs, ?_, Same.put S14 hD2, vs ++ [V.ref t], upd_same, by rw [hfl, List.length_append, lv]; rfl⟩
                  have h1 : ((L.take k).filter (inc s)).length ≤ L.length := by
                    have a := List.length_filter_le (inc s) (L.take k)
                    have b : (L.take k).length ≤ L.length := by rw [List.length_take]; omega
                    omega
                  exact Nat.lt_of_le_of_lt (by omega : vs.length ≤ 100) (by decide)
                · refine iteF' (by simpa using z) ?_
                  rw [if_neg z] at hfl
                  exact ⟨S14, vs, hvs, by rw [hfl, lv]; rfl⟩
              · obtain ⟨S14, vs, hvs, lv⟩ := pv
                rw [List.length_map, paired_len hpp, List.take_length] at lv
                walk_at "rd"
                refine rd_len hvs ?_
                refine ⟨_, S14 _ _ hD13, ?_, Same.put (S13.trans S14) hD, ?_⟩
                · rw [List.length_map, List.length_take]
                  exact Nat.lt_of_le_of_lt (Nat.min_le_right _ _) (by show 2 < sizeLine; decide)
                · rw [upd_same, lv]
                  congr 2
                  have : ([((i : Nat) : Int), ((o : Nat) : Int)].take (j + 1)) = ([((i : Nat) : Int), ((o : Nat) : Int)].take j) ++ [s] := by rw [List.take_succ, hs]; rfl
                  rw [this, List.map_append]
                  rfl
            · obtain ⟨S13, hD13⟩ := pv
              have I13 := I12.same S13
              obtain ⟨Dl13, Fx13, _, hl13, _⟩ := id I13
              walk_at "rd"
              refine rd_max (ns := [((L.filter (inc ((i : Nat) : Int))).length : Int), ((L.filter (inc ((o : Nat) : Int))).length : Int)]) hD13 (Nat.zero_lt_succ _) fun mx mm my => ?_
              have y1 := my _ List.mem_cons_self
              have y2 := my _ (List.mem_cons_of_mem _ List.mem_cons_self)
              walk_at "rd"
              by_cases c1 : mx < 1 + m
              · refine iteT' (decide_eq_true c1) ?_
                walk_at "rd"
                refine ⟨p, q, 3, rfl, Dl13, by decide, by decide, fun H14 w' d14 f14 w0 w3 => ?_⟩
                have I14 := I13.fix lp lq d14 f14
                obtain ⟨_, _, _, hl14, _⟩ := id I14
                walk_at "rd"
                by_cases c2 : 0 < w'
                · refine iteT' (decide_eq_true c2) ?_
                  walk_at "rd"
                  refine rd_ty hl14 ?_
                  walk_at "rd"
                  intro v H15 v0 S15 hv
                  have z1 : (0 : Int) + (i : Nat) = (i : Nat) := by omega
                  have z2 : (0 : Int) + (o : Nat) = (o : Nat) := by omega
                  rw [z1, z2] at hv
                  have hv : PairAt H15 v (((i : Nat) : Int), ((o : Nat) : Int)) := hv
                  obtain ⟨xs, hxs, lxs, I15⟩ := (I14.same S15).app lp lq l00 hv
                  walk_at "rd"
                  refine rd_app hxs (by omega) ?_
                  walk_at "rd"
                  exact ⟨⟨_, _, _, _, _, _, rfl⟩, _, I15, B.app hi (by omega) (by omega)⟩
                · refine iteF' (decide_eq_false c2) ?_
                  walk_at "rd"
                  exact ⟨⟨_, _, _, _, _, _, rfl⟩, L, I14, B.skip⟩
              · refine iteF' (decide_eq_false c1) ?_
                walk_at "rd"
                exact ⟨⟨_, _, _, _, _, _, rfl⟩, L, I13, B.skip⟩
          · obtain ⟨⟨o5, o6, o7, o9, o10, o11, rfl⟩, L, I, B⟩ := pv
            exact ⟨⟨_, _, _, _, _, _, _, rfl⟩, L, I, B.next (by omega)⟩
        · obtain ⟨⟨o5, o6, o7, o8, o9, o10, o11, rfl⟩, L, I, B⟩ := pv
          exact fin _ L _ rfl I B.good
      · refine iteF' (decide_eq_false h3) ?_
        walk_at "rd1"
        walk_at "rd1"
        refine fin _ _ _ rfl I ?_
        rw [← hsp]
        have := goodB_ok (circ_good n n1 n10 f.toNat (by omega))
        have e : ((f.toNat : Nat) : Int) = f := by omega
        rwa [e] at this
end
end K10

namespace K10
open PySem PySem.Spec PyProof.Rows L2 KX
local macro_rules | `(tactic| walk_at "rd1") => `(tactic| first
  | with_reducible refine rd_seq ?_
  | with_reducible refine rd_for ?_
  | with_reducible refine rd_lc ?_
  | with_reducible refine rd_asg ?_
  | ((with_reducible refine' rd_var ?rdv ?_); (case rdv => exact rfl))
  | with_reducible refine rd_c ?_
  | with_reducible refine rd_op ?_
  | with_reducible refine rd_un ?_
  | with_reducible refine rd_cons ?_
  | with_reducible refine rd_nil ?_
  | with_reducible refine rd_call ?_
  | with_reducible refine rd_cb ?_
  | with_reducible refine rd_tB ?_
  | with_reducible refine rd_test ?_
  | with_reducible refine rd_bl ?_
  | with_reducible refine rd_rI0 ?_
  | with_reducible refine rd_eqI ?_
  | with_reducible refine rd_neI ?_
  | with_reducible refine rd_rU ?_
  | with_reducible refine rd_name ?_
  | with_reducible refine rd_ifs ?_
  | with_reducible refine rd_and ?_
  | with_reducible refine rd_or ?_
  | with_reducible refine rd_not ?_
  | with_reducible refine rd_yes ?_
  | with_reducible refine rd_andV ?_
  | with_reducible refine rd_orV ?_
  | with_reducible refine rd_notV ?_
  | with_reducible refine rd_if ?_
  | with_reducible refine rd_isN ?_
  | with_reducible refine rd_iT ?_
  | with_reducible refine rd_iF ?_
  | with_reducible refine rd_ret ?_
  | with_reducible refine rd_retN ?_
  | with_reducible refine rd_drop ?_
  | with_reducible refine rd_next ?_
  | with_reducible refine rd_cont ?_
  | with_reducible refine rd_brk ?_
  | with_reducible refine rd_nx ?_
  | with_reducible refine rd_rt ?_
  | with_reducible refine rd_ct ?_
  | with_reducible refine rd_bk ?_
  | with_reducible refine rd_par ?_
  | with_reducible refine rd_par3 ?_
  | with_reducible refine rd_par2 ?_
  | with_reducible refine rd_par33 ?_
  | with_reducible refine rd_gcons ?_
  | with_reducible refine rd_gnil ?_
  | with_reducible refine rd_sub ?_
  | with_reducible refine rd_tup ?_
  | with_reducible refine rd_lst ?_
  | ((with_reducible refine rd_tupT ?hl ?_); (case hl => exact Nat.le_of_ble_eq_true rfl))
  | ((with_reducible refine rd_lstT ?hl ?_); (case hl => exact Nat.le_of_ble_eq_true rfl))
  | with_reducible refine rd_bm ?_
  | with_reducible refine rd_bm0 ?_
  | with_reducible refine rd_sl ?_
  | with_reducible refine rd_noP ?_
  | with_reducible refine rd_part ?_
  | with_reducible refine rd_int ?_
  | with_reducible refine rd_int1 ?_
  | with_reducible refine rd_fld ?_
  | with_reducible refine rd_then ?_
  | with_reducible refine rd_raise ?_
  | with_reducible refine rd_one ?_
  | with_reducible refine rd_sfld ?_
  | with_reducible refine rd_ilist ?_
  | with_reducible refine rd_itup ?_
  | with_reducible refine rd_rng1 ?_
  | with_reducible refine rd_enum ?_
  | with_reducible refine rd_enumT ?_)
local macro_rules | `(tactic| walk_at "rd") => `(tactic| repeat (walk_at "rd1"))
def spDrawn : Sp := fun vs H Q _ => ∃ (p q : Addr) (k : Int) (n : Nat), vs = [.ref p, .int k, .int (n : Nat)] ∧ Deal H p q ∧ 1 ≤ k ∧ k ≤ 4 ∧ 1 ≤ n ∧ n < 10 ∧
  ∀ (H' : Hp) (t a l : Addr) (ms : List Int) (ps : List Addr) (L : List (Int × Int)), Deal H' p q → Fix p q H H' → H' t = some (.tup [.ref a, .ref l]) → H a = none → H l = none → a ≠ l → a ≠ p → a ≠ q → l ≠ p → l ≠ q →
    H' a = some (.lst (ms.map V.int)) → ms.length = n → (∀ m ∈ ms, 0 ≤ m ∧ m < k) →
    H' l = some (.lst (ps.map V.ref)) → Paired (PairAt H') ps L → Good n 4 L → L.Pairwise lexlt → Q (.ref t) H'
section
variable {P : Program} {w : World} {K : PySem.W.Frag} {mg : Str → Option Value} {base : Heap} (T : TX K mg)
theorem G__law_network : FnOk P w K mg base CX0 3 T.f__law_network T.d__law_network ["_law_deal", "_law_kinds", "_law_many"] spDrawn := by
  refine T.F__law_network.ok sc__law_network (fun vs H Q E h => ?_) fun cdv A outer s H vs Q E hr h => ⟨_, (pss_cons (ps_asg (pe_tup (pa_cons (pe_call (G__law_any T) (hr.mono (by decide)) (by rfl) T.m__law_any T.F__law_any.kp T.b__law_any .nil pass0 (by exact (pa_cons (pv 0) (pa_cons (pv 1) pa_nil)))) (pa_cons (pe_call (G__law_any T) (hr.mono (by decide)) (by rfl) T.m__law_any T.F__law_any.kp T.b__law_any .nil pass0 (by exact (pa_cons (pv 0) (pa_cons pe_int pa_nil)))) pa_nil))) (pg_tupK (K := K) (n := 2) (by rfl) (pgs_cons (pg_name (i := 3) sc__law_network.nd rfl (.inr rfl)) (pgs_cons (pg_name (i := 4) sc__law_network.nd rfl (.inr rfl)) pgs_nil)))) (pss_cons (ps_setLc (i := 5) (own := [("_law_at", 6)]) (by rfl) sc__law_network.nd rfl rfl (sw_true rfl rfl rfl (by decide +kernel)) (pi_range1 (by rfl) T.n_range (by exact (pa_cons (pv 2) pa_nil))) (blkOk_by (own := [("_law_at", 6)]) (N := N__law_network) (sc := defScope s__law_network) (by decide +kernel)) (fun _ _ _ _ _ => (pg_name (i := 6) sc__law_network.nd rfl (.inl rfl))) (fun _ _ _ _ _ => pts_nil) (fun _ _ _ _ _ => (pe_ifExp (pt_cmpR op_eq (pv 4) pe_int (nomark _)) (pe_op op_mod (pe_callTy call_int1 (by rfl) T.n_int (by decide +kernel) (by exact (pa_cons (pe_op op_add (pv 3) (pv 6)) pa_nil))) (pv 1)) (pe_call (G__law_any T) (hr.mono (by decide)) (by rfl) T.m__law_any T.F__law_any.kp T.b__law_any .nil pass0 (by exact (pa_cons (pv 0) (pa_cons (pv 1) pa_nil)))))) ) (pss_one (ps_ret (pe_tup (pa_cons (pv 5) (pa_cons (pe_call (G__law_links T) (hr.mono (by decide)) (by rfl) T.m__law_links T.F__law_links.kp T.b__law_links .nil pass0 (by exact (pa_cons (pv 0) (pa_cons (pv 2) pa_nil)))) pa_nil))))))), ?_⟩
  · obtain ⟨p, q, k, n, rfl, _⟩ := h
    rfl
  · obtain ⟨p, q, k, n, rfl, d, k1, k4, n1, n10, hQ⟩ := h
    walk_at "rd"
    refine ⟨p, q, k, rfl, d, by omega, by omega, fun H1 st d1 f1 st0 stk => ?_⟩
    walk_at "rd"
    refine ⟨p, q, 3, rfl, d1, by omega, by omega, fun H2 tn d2 f2 t0 t3 => ?_⟩
    walk_at "rd"
    intro t H3 tt0 S3 ht
    refine rd_gtup (Tup.of ht) rfl ?_
    have d3 := d2.same S3
    walk_at "rd"
    refine ⟨by omega, by omega, fun D hD => ?_⟩
    obtain ⟨d4, Dp, Dq⟩ := d3.new (o := .lst []) hD
    have D0 : H D = none := f1.free d1 (f2.free d2 (S3.free hD))
    refine lc_range (lo := 0) (n := n) (fun i H' => Deal H' p q ∧ Fix p q H3 H' ∧ ∃ ms : List Int, H' D = some (.lst (ms.map V.int)) ∧ ms.length = i ∧ ∀ m ∈ ms, 0 ≤ m ∧ m < k)
      ⟨d4, Fix.new hD, [], upd_same, rfl, by simp⟩ (fun i H' hi pv => ?_) (fun H' pv => ?_)
    · obtain ⟨d5, f5, ms, hms, lms, bms⟩ := pv
      have put : ∀ (H6 : Hp) (j : Int), Deal H6 p q → Fix p q H' H6 → 0 ≤ j → j < k → ∃ acc, H6 D = some (.lst acc) ∧ acc.length < sizeLine ∧ (Deal (upd H6 D (.lst (acc ++ [V.int j]))) p q ∧ Fix p q H3 (upd H6 D (.lst (acc ++ [V.int j]))) ∧
          ∃ ms : List Int, upd H6 D (.lst (acc ++ [V.int j])) D = some (.lst (ms.map V.int)) ∧ ms.length = i + 1 ∧ ∀ m ∈ ms, 0 ≤ m ∧ m < k) := fun H6 j d6 f6 j0 jk => by
        refine ⟨_, f6 _ _ Dp Dq hms, ?_, d6.off Dp Dq, (f5.trans f6).upd hD, ms ++ [j], ?_, by simp [lms], fun m hm => ?_⟩
        · rw [List.length_map]
          exact Nat.lt_of_le_of_lt (by omega : ms.length ≤ 100) (by decide)
        · rw [upd_same]; simp
        · rcases List.mem_append.mp hm with z | z
          · exact bms m z
          · rw [List.mem_singleton.mp z]; omega
      walk_at "rd"
      refine ⟨rfl, ?_⟩
      walk_at "rd"
      by_cases c : tn = 0
      · refine iteT' (decide_eq_true c) ?_
        walk_at "rd"
        refine .inl ⟨_, rfl, ?_⟩
        walk_at "rd"
        refine rd_rI (by omega) ?_
        exact put H' _ d5 (Fix.refl _ _ _) (Int.emod_nonneg _ (by omega)) (Int.emod_lt_of_pos _ (by omega))
      · refine iteF' (decide_eq_false c) ?_
        walk_at "rd"
        refine ⟨p, q, k, rfl, d5, by omega, by omega, fun H6 j d6 f6 j0 jk => ?_⟩
        exact put H6 j d6 f6 j0 jk
    · obtain ⟨d5, f5, ms, hms, lms, bms⟩ := pv
      walk_at "rd"
      refine ⟨p, q, n, rfl, d5, n1, n10, fun H6 l ps L d6 f6 l0 lp lq hl hps g sr => ?_⟩
      walk_at "rd"
      intro t' H7 t'0 S7 ht'
      have hms6 := f6 _ _ Dp Dq hms
      have Dl : D ≠ l := fun z => by rw [z, l0] at hms; cases hms
      exact hQ H7 t' D l ms ps L (d6.same S7) (f1.trans (f2.trans ((Fix.same S3).trans (f5.trans (f6.trans (Fix.same S7)))))) ht' D0 (f1.free d1 (f2.free d2 (S3.free (f5.free d5 l0)))) Dl Dp Dq lp lq
        (S7 _ _ hms6) lms bms (S7 _ _ hl) (pairs_same hps S7) g sr
end
end K10

namespace K10
/-! rows and their tallies: the sums that split_sums makes are those of the ranked row -/
/-- the row of a tally -/
def spread : List (Int × Nat) → List Int
  | [] => []
  | (n, m) :: ps => List.replicate m n ++ spread ps
/-- the turns of split_sums: what is still wanted, top, rest -/
def splitI (k : Int) : List (Int × Nat) → Nat → Int → Int → Int × Int
  | [], _, t, r => (t, r)
  | (n, m) :: ps, w, t, r => splitI k ps (w - min w m) (t + ((min w m : Nat) : Int) * n) (r + ((m - min w m : Nat) : Int) * min n k)
def sumI (l : List Int) : Int := l.foldr (· + ·) 0
theorem sumI_app (a b : List Int) : sumI (a ++ b) = sumI a + sumI b := by
  induction a with
  | nil => simp [sumI]
  | cons x a ih => show x + sumI (a ++ b) = x + sumI a + sumI b; rw [ih]; omega
theorem sumI_rep (m : Nat) (x : Int) : sumI (List.replicate m x) = (m : Int) * x := by
  induction m with
  | zero => simp [sumI]
  | succ m ih =>
    show x + sumI (List.replicate m x) = _
    rw [ih, Int.natCast_add, Int.add_mul]
    omega
theorem split_eq (k : Int) : ∀ (ps : List (Int × Nat)) (w : Nat) (t r : Int),
    splitI k ps w t r = (t + sumI ((spread ps).take w), r + sumI (((spread ps).drop w).map fun x => min x k))
  | [], w, t, r => by simp [splitI, spread, sumI]
  | (n, m) :: ps, w, t, r => by
    rw [splitI, split_eq k ps]
    show _ = (t + sumI ((List.replicate m n ++ spread ps).take w), r + sumI (((List.replicate m n ++ spread ps).drop w).map fun x => min x k))
    rw [List.take_append, List.drop_append, List.map_append, sumI_app, sumI_app, List.length_replicate, List.take_replicate, List.drop_replicate, List.map_replicate, sumI_rep, sumI_rep]
    have e1 : w - min w m = w - m := by omega
    have e2 : m - min w m = m - w := by omega
    rw [e1, e2]
    refine Prod.ext ?_ ?_
    · show _ = _; omega
    · show _ = _; omega
theorem sumI_le {g : Int} : ∀ l : List Int, (∀ x ∈ l, x ≤ g) → sumI l ≤ (l.length : Int) * g
  | [], _ => by simp [sumI]
  | x :: l, h => by
    have h1 := sumI_le l fun y hy => h y (List.mem_cons_of_mem _ hy)
    have h2 := h x (List.mem_cons_self ..)
    show x + sumI l ≤ ((l.length + 1 : Nat) : Int) * g
    rw [Int.natCast_add, Int.add_mul]
    omega
theorem sumI_nn : ∀ l : List Int, (∀ x ∈ l, 0 ≤ x) → 0 ≤ sumI l
  | [], _ => by simp [sumI]
  | x :: l, h => by
    have h1 := sumI_nn l fun y hy => h y (List.mem_cons_of_mem _ hy)
    have h2 := h x (List.mem_cons_self ..)
    show 0 ≤ x + sumI l
    omega
/-- beyond the greatest number no inequality of a row fails -/
theorem row_far {l : List Int} {g : Int} {k : Nat} (h0 : ∀ x ∈ l, 0 ≤ x) (hg : ∀ x ∈ l, x ≤ g) (hk : g < (k : Int)) :
    ¬ (k : Int) * ((k : Int) - 1) + sumI ((l.drop k).map fun x => min x (k : Int)) < sumI (l.take k) := by
  have h1 : ∀ x ∈ l.take k, x ≤ (k : Int) - 1 := fun x hx => by have := hg x (List.mem_of_mem_take hx); omega
  have h2 := sumI_le (l.take k) h1
  have h3 : 0 ≤ sumI ((l.drop k).map fun x => min x (k : Int)) := sumI_nn _ fun x hx => by
    obtain ⟨y, hy, rfl⟩ := List.mem_map.mp hx
    have := h0 y (List.mem_of_mem_drop hy)
    omega
  have h4 : ((l.take k).length : Int) * ((k : Int) - 1) ≤ (k : Int) * ((k : Int) - 1) := by
    rcases Nat.eq_zero_or_pos k with e | e
    · subst e; simp
    · exact Int.mul_le_mul_of_nonneg_right (by have := List.length_take_le k l; omega) (by omega)
  omega
/-- beyond the other row's greatest number no inequality of two rows of equal sums fails -/
theorem sides_far {l r : List Int} {g : Int} {k : Nat} (h0 : ∀ x ∈ l, 0 ≤ x) (hg : ∀ x ∈ r, x ≤ g) (hk : g < (k : Int)) (he : sumI l = sumI r) :
    ¬ sumI (r.map fun x => min x (k : Int)) < sumI (l.take k) := by
  have e : r.map (fun x => min x (k : Int)) = r := by
    refine (List.map_congr_left fun x hx => ?_).trans (List.map_id r)
    have := hg x hx
    show min x (k : Int) = x
    omega
  have h1 : sumI l = sumI (l.take k) + sumI (l.drop k) := by rw [← sumI_app, List.take_append_drop]
  have h2 := sumI_nn (l.drop k) fun x hx => h0 x (List.mem_of_mem_drop hx)
  rw [e]
  omega
/-! counts[n] = counts.get(n, 0) + 1, in the dict's order -/
def bump (n : Int) : List (Int × Nat) → List (Int × Nat)
  | [] => [(n, 1)]
  | (a, m) :: ps => if a = n then (a, m + 1) :: ps else (a, m) :: bump n ps
def tallyI (row : List Int) : List (Int × Nat) := row.foldl (fun ps n => bump n ps) []
theorem spread_bump (n : Int) : ∀ ps, (spread (bump n ps)).Perm (n :: spread ps)
  | [] => List.Perm.refl _
  | (a, m) :: ps => by
    rw [bump]
    by_cases c : a = n
    · rw [if_pos c]
      subst c
      exact List.Perm.refl _
    · rw [if_neg c]
      show (List.replicate m a ++ spread (bump n ps)).Perm (n :: (List.replicate m a ++ spread ps))
      exact ((spread_bump n ps).append_left _).trans List.perm_middle
theorem spread_tally (row : List Int) : (spread (tallyI row)).Perm row := by
  have e : ∀ (row : List Int) ps, (spread (row.foldl (fun ps n => bump n ps) ps)).Perm (row ++ spread ps) := by
    intro row
    induction row with
    | nil => exact fun ps => List.Perm.refl _
    | cons n row ih =>
      intro ps
      exact (ih (bump n ps)).trans (((spread_bump n ps).append_left row).trans List.perm_middle)
  exact (e row []).trans (by rw [show spread [] = [] from rfl, List.append_nil])
theorem bump_mem {n : Int} : ∀ {ps : List (Int × Nat)} {q : Int × Nat}, q ∈ bump n ps → q.1 = n ∨ q.1 ∈ ps.map (·.1)
  | [], q, h => .inl (by rw [List.mem_singleton.mp h])
  | (a, m) :: ps, q, h => by
    rw [bump] at h
    by_cases c : a = n
    · rw [if_pos c] at h
      rcases List.mem_cons.mp h with e | e
      · exact .inl (by rw [e]; exact c)
      · exact .inr (List.mem_cons_of_mem _ (List.mem_map_of_mem e))
    · rw [if_neg c] at h
      rcases List.mem_cons.mp h with e | e
      · exact .inr (by rw [e]; exact List.mem_cons_self ..)
      · rcases bump_mem e with e | e
        · exact .inl e
        · exact .inr (List.mem_cons_of_mem _ e)
theorem bump_nd {n : Int} : ∀ {ps : List (Int × Nat)}, (ps.map (·.1)).Nodup → ((bump n ps).map (·.1)).Nodup
  | [], _ => by simp [bump]
  | (a, m) :: ps, h => by
    rw [bump]
    by_cases c : a = n
    · rw [if_pos c]; exact h
    · rw [if_neg c]
      rw [List.map_cons, List.nodup_cons] at h ⊢
      refine ⟨fun e => ?_, bump_nd h.2⟩
      obtain ⟨q, hq, e⟩ := List.mem_map.mp e
      rcases bump_mem hq with e2 | e2
      · exact c (by rw [← e2]; exact e.symm)
      · exact h.1 (by show a ∈ _; rw [show a = q.1 from e.symm]; exact e2)
theorem tally_nd (row : List Int) : ((tallyI row).map (·.1)).Nodup := by
  have e : ∀ (row : List Int) ps, ((ps : List (Int × Nat)).map (·.1)).Nodup → ((row.foldl (fun ps n => bump n ps) ps).map (·.1)).Nodup := by
    intro row
    induction row with
    | nil => exact fun ps h => h
    | cons n row ih => exact fun ps h => ih _ (bump_nd h)
  exact e row [] List.nodup_nil
theorem spread_mem {x : Int} : ∀ {ps : List (Int × Nat)}, x ∈ spread ps → ∃ q ∈ ps, q.1 = x
  | (a, m) :: ps, h => by
    rcases List.mem_append.mp (show x ∈ List.replicate m a ++ spread ps from h) with e | e
    · exact ⟨_, List.mem_cons_self .., (List.eq_of_mem_replicate e).symm⟩
    · obtain ⟨q, hq, e⟩ := spread_mem e
      exact ⟨q, List.mem_cons_of_mem _ hq, e⟩
theorem spread_desc : ∀ {ps : List (Int × Nat)}, ps.Pairwise (fun x y => y.1 ≤ x.1) → (spread ps).Pairwise (fun x y => y ≤ x)
  | [], _ => .nil
  | (a, m) :: ps, h => by
    show (List.replicate m a ++ spread ps).Pairwise _
    rw [List.pairwise_cons] at h
    rw [List.pairwise_append]
    refine ⟨?_, spread_desc h.2, fun x hx y hy => ?_⟩
    · rw [List.pairwise_replicate]; exact .inr (Int.le_refl _)
    · obtain ⟨q, hq, rfl⟩ := spread_mem hy
      rw [List.eq_of_mem_replicate hx]
      exact h.1 q hq
theorem spread_perm : ∀ {ps qs : List (Int × Nat)}, ps.Perm qs → (spread ps).Perm (spread qs) := by
  intro ps qs h
  induction h with
  | nil => exact List.Perm.refl _
  | cons x _ ih => exact ih.append_left _
  | swap x y l =>
    show (List.replicate _ _ ++ (List.replicate _ _ ++ spread l)).Perm (List.replicate _ _ ++ (List.replicate _ _ ++ spread l))
    rw [← List.append_assoc, ← List.append_assoc]
    exact List.perm_append_comm.append_right _
  | trans _ _ a b => exact a.trans b
theorem desc_uniq : ∀ {l m : List Int}, l.Perm m → l.Pairwise (fun x y => y ≤ x) → m.Pairwise (fun x y => y ≤ x) → l = m := by
  intro l m h a b
  exact h.eq_of_pairwise (fun x y _ _ h1 h2 => Int.le_antisymm h2 h1) a b
/-- the spread of a sorted tally is the ranked row -/
theorem spread_ranked {row ranked : List Int} {ps : List (Int × Nat)} (hp : ps.Perm (tallyI row)) (hs : ps.Pairwise (fun x y => y.1 ≤ x.1)) (hr : ranked.Perm row) (hd : ranked.Pairwise (fun x y => y ≤ x)) : spread ps = ranked :=
  desc_uniq ((spread_perm hp).trans ((spread_tally row).trans hr.symm)) (spread_desc hs) hd

/-! ### ranked rows, the inequalities, the first that fails -/
theorem sumI_sum (l : List Int) : l.sum = sumI l := rfl
theorem sumI_perm {l m : List Int} (p : l.Perm m) : sumI l = sumI m := by
  induction p with
  | nil => rfl
  | cons x _ ih => show x + sumI _ = x + sumI _; rw [ih]
  | swap x y l => show y + (x + sumI l) = x + (y + sumI l); omega
  | trans _ _ a b => rw [a, b]
def rank (l : List Int) : List Int := l.mergeSort fun a b => decide (b ≤ a)
theorem rank_perm (l : List Int) : (rank l).Perm l := List.mergeSort_perm _ _
theorem rank_desc (l : List Int) : (rank l).Pairwise (fun x y => y ≤ x) := by
  have h := List.pairwise_mergeSort (le := fun a b : Int => decide (b ≤ a)) (fun a b c h1 h2 => by simp at *; omega) (fun a b => by simp; omega) l
  exact h.imp fun z => by simpa using z
theorem rank_of {l m : List Int} (p : m.Perm l) (h : m.Pairwise (fun x y => y ≤ x)) : m = rank l := desc_uniq (p.trans (rank_perm l).symm) h (rank_desc l)
theorem rank_congr {l m : List Int} (p : l.Perm m) : rank l = rank m := rank_of ((rank_perm l).trans p) (rank_desc l)
theorem rank_len (l : List Int) : (rank l).length = l.length := (rank_perm l).length_eq
def topR (l : List Int) (k : Nat) : Int := sumI ((rank l).take k)
def restR (l : List Int) (k : Nat) : Int := sumI (((rank l).drop k).map fun x => min x (k : Int))
def capS (r : List Int) (k : Nat) : Int := sumI (r.map fun x => min x (k : Int))
def badRow (l : List Int) (k : Nat) : Bool := decide ((k : Int) * ((k : Int) - 1) + restR l k < topR l k)
def badSides (l r : List Int) (k : Nat) : Bool := decide (capS r k < topR l k)
def firstK (p : Nat → Bool) (n : Nat) : Option Nat := ((List.range n).find? fun i => p (i + 1)).map (· + 1)
theorem firstK_none {p : Nat → Bool} {n : Nat} (h : ∀ j, j < n → p (j + 1) = false) : firstK p n = none := by
  have e : (List.range n).find? (fun i => p (i + 1)) = none := List.find?_eq_none.mpr fun x hx => by rw [h x (List.mem_range.mp hx)]; simp
  unfold firstK
  rw [e]; rfl
theorem find_range (p : Nat → Bool) : ∀ (n i : Nat), i < n → (∀ j, j < i → p j = false) → p i = true → (List.range n).find? p = some i
  | 0, i, hi, _, _ => absurd hi (by omega)
  | n + 1, i, hi, h, hp => by
    rw [List.range_succ, List.find?_append]
    by_cases c : i < n
    · rw [find_range p n i c h hp]; rfl
    · have e : i = n := by omega
      subst e
      have e2 : (List.range i).find? p = none := List.find?_eq_none.mpr fun x hx => by rw [h x (List.mem_range.mp hx)]; simp
      rw [e2]
      simp [hp]
theorem firstK_hit {p : Nat → Bool} {n i : Nat} (hi : i < n) (h : ∀ j, j < i → p (j + 1) = false) (hp : p (i + 1) = true) : firstK p n = some (i + 1) := by
  unfold firstK
  rw [find_range (fun i => p (i + 1)) n i hi h hp]; rfl
theorem firstK_some {p : Nat → Bool} {n k : Nat} (h : firstK p n = some k) : 1 ≤ k ∧ k ≤ n ∧ p k = true := by
  unfold firstK at h
  obtain ⟨i, hi, rfl⟩ := Option.map_eq_some_iff.mp h
  have h1 := List.mem_range.mp (List.mem_of_find?_eq_some hi)
  have h2 := List.find?_some hi
  exact ⟨by omega, by omega, h2⟩
def rowDue (l : List Int) : Option Nat := if sumI l % 2 = 1 then some 0 else firstK (badRow l) l.length
def sidesDue (l r : List Int) : Option Nat := if sumI l = sumI r then firstK (badSides l r) l.length else some 0
theorem badRow_far {l : List Int} {g : Int} {k : Nat} (h0 : ∀ x ∈ l, 0 ≤ x) (hg : ∀ x ∈ l, x ≤ g) (hk : g < (k : Int)) : badRow l k = false := by
  have q := row_far (l := rank l) (k := k) (fun x hx => h0 x ((rank_perm l).mem_iff.mp hx)) (fun x hx => hg x ((rank_perm l).mem_iff.mp hx)) hk
  exact decide_eq_false q
theorem badSides_far {l r : List Int} {g : Int} {k : Nat} (h0 : ∀ x ∈ l, 0 ≤ x) (hg : ∀ x ∈ r, x ≤ g) (hk : g < (k : Int)) (he : sumI l = sumI r) : badSides l r k = false := by
  have q := sides_far (l := rank l) (r := r) (k := k) (fun x hx => h0 x ((rank_perm l).mem_iff.mp hx)) hg hk ((sumI_perm (rank_perm l)).trans he)
  exact decide_eq_false q
/-! rows of a plan -/
abbrev PlanI := List (Int × List Int)
def rowI (V : PlanI) (a b : Int) : List Int := (V.filter fun v => decide (v.1 = a)).map fun v => ((v.2.count b : Nat) : Int)
theorem rowI_nn (V : PlanI) (a b : Int) : ∀ x ∈ rowI V a b, 0 ≤ x := fun x hx => by
  obtain ⟨v, _, rfl⟩ := List.mem_map.mp hx
  omega
theorem rowI_len (V : PlanI) (a b : Int) : (rowI V a b).length ≤ V.length := by
  unfold rowI
  rw [List.length_map]; exact List.length_filter_le _ _
theorem rowI_le {V : PlanI} {d : Nat} (h : ∀ v ∈ V, v.2.length ≤ d) (a b : Int) : ∀ x ∈ rowI V a b, x ≤ d := fun x hx => by
  obtain ⟨v, hv, rfl⟩ := List.mem_map.mp hx
  have h1 := h v (List.mem_filter.mp hv).1
  have h2 := List.count_le_length (a := b) (l := v.2)
  omega
def kindDue (V : PlanI) (a b : Int) : Option Nat := if a = b then rowDue (rowI V a b) else sidesDue (rowI V a b) (rowI V b a)
def KI : List (Int × Int) := [(0, 0), (0, 1), (0, 2), (0, 3), (1, 1), (1, 2), (1, 3), (2, 2), (2, 3), (3, 3)]
def faultL (V : PlanI) : List (Int × Int) → Option (Int × Int × Nat)
  | [] => none
  | e :: es => match kindDue V e.1 e.2 with
    | some k => some (e.1, e.2, k)
    | none => faultL V es
def faultI (V : PlanI) : Option (Int × Int × Nat) := faultL V KI
theorem faultL_step {V : PlanI} {i : Nat} {e : Int × Int} (h : KI[i]? = some e) (hf : faultL V (KI.drop i) = faultI V) :
    (∀ k, kindDue V e.1 e.2 = some k → faultI V = some (e.1, e.2, k)) ∧ (kindDue V e.1 e.2 = none → faultL V (KI.drop (i + 1)) = faultI V) := by
  obtain ⟨hi, he⟩ := List.getElem?_eq_some_iff.mp h
  rw [List.drop_eq_getElem_cons hi, he] at hf
  constructor
  · intro k hk
    rw [← hf]
    show (match kindDue V e.1 e.2 with
      | some k => some (e.1, e.2, k)
      | none => faultL V (KI.drop (i + 1))) = _
    rw [hk]
  · intro hk
    rw [← hf]
    show _ = (match kindDue V e.1 e.2 with
      | some k => some (e.1, e.2, k)
      | none => faultL V (KI.drop (i + 1)))
    rw [hk]
def barsI (l r : List Int) (one : Bool) (k : Nat) : Bool :=
  decide (k ≤ l.length) && (if k = 0 then (if one = true then decide (sumI l % 2 = 1) else !decide (sumI l = sumI r)) else (if one = true then badRow l k else badSides l r k))
theorem faultL_some {V : PlanI} {a b : Int} {k : Nat} : ∀ {es : List (Int × Int)}, faultL V es = some (a, b, k) → (a, b) ∈ es ∧ kindDue V a b = some k
  | e :: es, h => by
    unfold faultL at h
    cases c : kindDue V e.1 e.2 with
    | none =>
      rw [c] at h
      obtain ⟨h1, h2⟩ := faultL_some (es := es) h
      exact ⟨List.mem_cons_of_mem _ h1, h2⟩
    | some j =>
      rw [c] at h
      cases h
      exact ⟨List.mem_cons_self .., c⟩
theorem kind_bars {V : PlanI} {a b : Int} {k : Nat} (h : kindDue V a b = some k) : barsI (rowI V a b) (rowI V b a) (decide (a = b)) k = true := by
  unfold kindDue at h
  unfold barsI
  by_cases c : a = b
  · rw [if_pos c] at h
    have ce : (decide (a = b)) = true := decide_eq_true c
    rw [ce]
    unfold rowDue at h
    by_cases o : sumI (rowI V a b) % 2 = 1
    · rw [if_pos o] at h
      cases h
      simp [o]
    · rw [if_neg o] at h
      obtain ⟨h1, h2, h3⟩ := firstK_some h
      have k0 : ¬ k = 0 := by omega
      simp [h2, k0, h3]
  · rw [if_neg c] at h
    have ce : (decide (a = b)) = false := decide_eq_false c
    rw [ce]
    unfold sidesDue at h
    by_cases o : sumI (rowI V a b) = sumI (rowI V b a)
    · rw [if_pos o] at h
      obtain ⟨h1, h2, h3⟩ := firstK_some h
      have k0 : ¬ k = 0 := by omega
      simp [h2, k0, h3]
    · rw [if_neg o] at h
      cases h
      simp [o]
theorem KI_mem {a b : Int} (h : (a, b) ∈ KI) : 0 ≤ a ∧ a ≤ b ∧ b < 4 := by
  unfold KI at h
  simp at h
  omega
theorem fault_right {V : PlanI} {a b : Int} {k : Nat} (h : faultI V = some (a, b, k)) : (0 ≤ a ∧ a ≤ b ∧ b < 4) ∧ barsI (rowI V a b) (rowI V b a) (decide (a = b)) k = true :=
  ⟨KI_mem (faultL_some h).1, kind_bars (faultL_some h).2⟩
/-! a plan turned round -/
theorem rowI_rev (V : PlanI) (a b : Int) : rowI V.reverse a b = (rowI V a b).reverse := by
  unfold rowI
  rw [List.filter_reverse, List.map_reverse]
theorem topR_congr {l m : List Int} (p : l.Perm m) (k : Nat) : topR l k = topR m k := by unfold topR; rw [rank_congr p]
theorem badRow_congr {l m : List Int} (p : l.Perm m) : badRow l = badRow m := by
  funext k
  unfold badRow restR topR
  rw [rank_congr p]
theorem badSides_congr {l m r s : List Int} (p : l.Perm m) (q : r.Perm s) : badSides l r = badSides m s := by
  funext k
  unfold badSides capS topR
  rw [rank_congr p, sumI_perm (q.map _)]
theorem rowDue_congr {l m : List Int} (p : l.Perm m) : rowDue l = rowDue m := by
  unfold rowDue
  rw [sumI_perm p, badRow_congr p, p.length_eq]
theorem sidesDue_congr {l m r s : List Int} (p : l.Perm m) (q : r.Perm s) : sidesDue l r = sidesDue m s := by
  unfold sidesDue
  rw [sumI_perm p, sumI_perm q, badSides_congr p q, p.length_eq]
theorem kindDue_rev (V : PlanI) (a b : Int) : kindDue V.reverse a b = kindDue V a b := by
  unfold kindDue
  rw [rowI_rev, rowI_rev, rowDue_congr (List.reverse_perm _), sidesDue_congr (List.reverse_perm _) (List.reverse_perm _)]
theorem faultL_rev (V : PlanI) : ∀ es, faultL V.reverse es = faultL V es
  | [] => rfl
  | e :: es => by
    unfold faultL
    rw [kindDue_rev, faultL_rev V es]
theorem faultI_rev (V : PlanI) : faultI V.reverse = faultI V := faultL_rev V KI
/-! a plan of equal views -/
theorem faultL_one {V : PlanI} {m : Int} : ∀ {es : List (Int × Int)}, (∀ e ∈ es, e ≠ (m, m) → kindDue V e.1 e.2 = none) → (m, m) ∈ es → faultL V es = (kindDue V m m).map fun k => (m, m, k)
  | e :: es, h, hm => by
    unfold faultL
    by_cases c : e = (m, m)
    · subst c
      show (match kindDue V m m with
        | some k => some (m, m, k)
        | none => faultL V es) = _
      cases d : kindDue V m m with
      | some k => rfl
      | none =>
        show faultL V es = none
        have gen : ∀ es : List (Int × Int), (∀ e ∈ es, kindDue V e.1 e.2 = none) → faultL V es = none := by
          intro es
          induction es with
          | nil => exact fun _ => rfl
          | cons e es ih =>
            intro h
            unfold faultL
            rw [h e (List.mem_cons_self ..)]
            exact ih fun x hx => h x (List.mem_cons_of_mem _ hx)
        refine gen es fun e he => ?_
        by_cases c : e = (m, m)
        · subst c; exact d
        · exact h e (List.mem_cons_of_mem _ he) c
    · rw [h e (List.mem_cons_self ..) c]
      refine faultL_one (fun x hx => h x (List.mem_cons_of_mem _ hx)) ?_
      rcases List.mem_cons.mp hm with z | z
      · exact absurd z.symm c
      · exact z
theorem rowI_rep (n : Nat) (m : Int) (ns : List Int) (a b : Int) : rowI (List.replicate n (m, ns)) a b = if m = a then List.replicate n ((ns.count b : Nat) : Int) else [] := by
  unfold rowI
  rw [List.filter_replicate]
  by_cases c : m = a
  · simp [c]
  · simp [c]
theorem rank_rep (n : Nat) (d : Int) : rank (List.replicate n d) = List.replicate n d :=
  (rank_of (List.Perm.refl _) (List.pairwise_replicate.mpr (.inr (Int.le_refl _)))).symm
theorem badRow_rep {n d k : Nat} (hd : d ≤ 4) (hn : 63 ≤ n) (k1 : 1 ≤ k) : badRow (List.replicate n (d : Int)) k = false := by
  refine decide_eq_false ?_
  unfold restR topR
  rw [rank_rep, List.take_replicate, List.drop_replicate, List.map_replicate, sumI_rep, sumI_rep]
  by_cases c : d + 1 ≤ k
  · have h1 : ((min k n : Nat) : Int) * (d : Int) ≤ (k : Int) * ((k : Int) - 1) := by
      refine Int.le_trans (Int.mul_le_mul_of_nonneg_right (by omega : ((min k n : Nat) : Int) ≤ (k : Int)) (by omega)) ?_
      exact Int.mul_le_mul_of_nonneg_left (by omega) (by omega)
    have h2 : 0 ≤ ((n - k : Nat) : Int) * min (d : Int) (k : Int) := Int.mul_nonneg (by omega) (by omega)
    omega
  · have hk : k = 1 ∨ k = 2 ∨ k = 3 ∨ k = 4 := by omega
    have hd' : d = 0 ∨ d = 1 ∨ d = 2 ∨ d = 3 ∨ d = 4 := by omega
    rw [show min (d : Int) (k : Int) = (k : Int) by omega, show min k n = k by omega]
    rcases hk with rfl | rfl | rfl | rfl <;> rcases hd' with rfl | rfl | rfl | rfl | rfl <;> omega
theorem badSides_no (n : Nat) (r : List Int) (hr : ∀ x ∈ r, 0 ≤ x) (k : Nat) : badSides (List.replicate n 0) r k = false := by
  refine decide_eq_false ?_
  unfold capS topR
  rw [rank_rep, List.take_replicate, sumI_rep]
  have := sumI_nn (r.map fun x => min x (k : Int)) fun x hx => by
    obtain ⟨y, hy, rfl⟩ := List.mem_map.mp hx
    have := hr y hy
    omega
  omega
theorem fault_even {n d : Nat} {m : Int} (hn : 63 ≤ n) (hd : d ≤ 4) (m0 : 0 ≤ m) (m4 : m < 4) :
    faultI (List.replicate n (m, List.replicate d m)) = if d * n % 2 = 0 then none else some (m, m, 0) := by
  have hm : (m, m) ∈ KI := by
    have : m = 0 ∨ m = 1 ∨ m = 2 ∨ m = 3 := by omega
    rcases this with rfl | rfl | rfl | rfl <;> decide
  have e := faultL_one (V := List.replicate n (m, List.replicate d m)) (m := m) (es := KI) (fun e he ne => ?_) hm
  · show faultL _ KI = _
    rw [e]
    unfold kindDue
    rw [if_pos rfl, rowI_rep, if_pos rfl, List.count_replicate_self]
    unfold rowDue
    rw [sumI_rep, List.length_replicate, firstK_none fun j _ => badRow_rep hd hn (by omega)]
    have e2 : ((n : Int) * (d : Int) % 2 = 1) ↔ ¬ d * n % 2 = 0 := by
      rw [Nat.mul_comm d n]
      have : ((n * d : Nat) : Int) = (n : Int) * (d : Int) := Int.natCast_mul n d
      omega
    by_cases c : d * n % 2 = 0
    · rw [if_pos c, if_neg (fun z => (e2.mp z) c)]; rfl
    · rw [if_neg c, if_pos (e2.mpr c)]; rfl
  · obtain ⟨a, b⟩ := e
    have hab := KI_mem he
    unfold kindDue
    show (if a = b then rowDue (rowI _ a b) else sidesDue (rowI _ a b) (rowI _ b a)) = none
    have zer : ∀ x ∈ rowI (List.replicate n (m, List.replicate d m)) b a, 0 ≤ x := rowI_nn _ _ _
    by_cases c : a = b
    · subst c
      have am : ¬ m = a := fun z => ne (by rw [z])
      rw [if_pos rfl, rowI_rep, if_neg am]
      rfl
    · rw [if_neg c]
      unfold sidesDue
      rw [rowI_rep, rowI_rep] at *
      by_cases c1 : m = a
      · have c2 : ¬ m = b := fun z => c (by rw [← c1, z])
        have c3 : (List.replicate d m).count b = 0 := by rw [List.count_replicate]; simp [c2]
        rw [if_pos c1, if_neg c2, c3]
        rw [if_pos (by rw [sumI_rep]; simp [sumI])]
        exact firstK_none fun j _ => badSides_no n [] (by simp) _
      · rw [if_neg c1]
        by_cases c2 : m = b
        · have c3 : (List.replicate d m).count a = 0 := by rw [List.count_replicate]; simp [c1]
          rw [if_pos c2, c3, if_pos (by rw [sumI_rep]; simp [sumI])]
          rfl
        · rw [if_neg c2, if_pos rfl]; rfl
end K10

namespace K10
open PySem PySem.Spec PyProof.Rows L2 KX
local macro_rules | `(tactic| walk_at "rd1") => `(tactic| first
  | with_reducible refine rd_seq ?_
  | with_reducible refine rd_for ?_
  | with_reducible refine rd_lc ?_
  | with_reducible refine rd_asg ?_
  | ((with_reducible refine' rd_var ?rdv ?_); (case rdv => exact rfl))
  | with_reducible refine rd_c ?_
  | with_reducible refine rd_op ?_
  | with_reducible refine rd_un ?_
  | with_reducible refine rd_cons ?_
  | with_reducible refine rd_nil ?_
  | with_reducible refine rd_call ?_
  | with_reducible refine rd_cb ?_
  | with_reducible refine rd_tB ?_
  | with_reducible refine rd_test ?_
  | with_reducible refine rd_bl ?_
  | with_reducible refine rd_rI0 ?_
  | with_reducible refine rd_eqI ?_
  | with_reducible refine rd_neI ?_
  | with_reducible refine rd_rU ?_
  | with_reducible refine rd_name ?_
  | with_reducible refine rd_ifs ?_
  | with_reducible refine rd_and ?_
  | with_reducible refine rd_or ?_
  | with_reducible refine rd_not ?_
  | with_reducible refine rd_yes ?_
  | with_reducible refine rd_andV ?_
  | with_reducible refine rd_orV ?_
  | with_reducible refine rd_notV ?_
  | with_reducible refine rd_if ?_
  | with_reducible refine rd_isN ?_
  | with_reducible refine rd_iT ?_
  | with_reducible refine rd_iF ?_
  | with_reducible refine rd_ret ?_
  | with_reducible refine rd_retN ?_
  | with_reducible refine rd_drop ?_
  | with_reducible refine rd_next ?_
  | with_reducible refine rd_cont ?_
  | with_reducible refine rd_brk ?_
  | with_reducible refine rd_nx ?_
  | with_reducible refine rd_rt ?_
  | with_reducible refine rd_ct ?_
  | with_reducible refine rd_bk ?_
  | with_reducible refine rd_par ?_
  | with_reducible refine rd_par3 ?_
  | with_reducible refine rd_par2 ?_
  | with_reducible refine rd_par33 ?_
  | with_reducible refine rd_gcons ?_
  | with_reducible refine rd_gnil ?_
  | with_reducible refine rd_sub ?_
  | with_reducible refine rd_tup ?_
  | with_reducible refine rd_lst ?_
  | ((with_reducible refine rd_tupT ?hl ?_); (case hl => exact Nat.le_of_ble_eq_true rfl))
  | ((with_reducible refine rd_lstT ?hl ?_); (case hl => exact Nat.le_of_ble_eq_true rfl))
  | with_reducible refine rd_bm ?_
  | with_reducible refine rd_bm0 ?_
  | with_reducible refine rd_sl ?_
  | with_reducible refine rd_noP ?_
  | with_reducible refine rd_part ?_
  | with_reducible refine rd_int ?_
  | with_reducible refine rd_int1 ?_
  | with_reducible refine rd_fld ?_
  | with_reducible refine rd_then ?_
  | with_reducible refine rd_raise ?_
  | with_reducible refine rd_one ?_
  | with_reducible refine rd_sfld ?_
  | with_reducible refine rd_ilist ?_
  | with_reducible refine rd_itup ?_
  | with_reducible refine rd_rng1 ?_
  | with_reducible refine rd_enum ?_
  | with_reducible refine rd_enumT ?_)
local macro_rules | `(tactic| walk_at "rd") => `(tactic| repeat (walk_at "rd1"))
theorem room1 {k : Nat} {A : Around} (r : Room k A) : A.units + 1 < cLine := by have := r.un; omega
/-! ### views, tallies -/
theorem RowT.same {H H' : Hp} {r : Addr} {ns : List Int} (h : RowT H r ns) (s : Same H H') : RowT H' r ns := Tup.same h s
/-- a view: the mode, the tuple of the neighbours, whose object is known -/
def ViewF (H : Hp) (v : Addr) (w : Int × List Int) : Prop := ∃ r, Tup H v [.int w.1, .ref r] ∧ TupF H r (w.2.map V.int)
theorem ViewF.same {H H' : Hp} {v : Addr} {w : Int × List Int} (h : ViewF H v w) (s : Same H H') : ViewF H' v w := by
  obtain ⟨r, h1, h2⟩ := h
  exact ⟨r, h1.same s, h2.same s⟩
def PairT (H : Hp) (q : Addr) (e : Int × Nat) : Prop := H q = some (.tup [.int e.1, .int (e.2 : Nat)])
def TalAt (H : Hp) (t : Addr) (ps : List (Int × Nat)) : Prop := ∃ qs : List Addr, Tup H t (qs.map V.ref) ∧ Paired (PairT H) qs ps
theorem TalAt.same {H H' : Hp} {t : Addr} {ps : List (Int × Nat)} (h : TalAt H t ps) (s : Same H H') : TalAt H' t ps := by
  obtain ⟨qs, h1, h2⟩ := h
  exact ⟨qs, h1.same s, paired_mono h2 fun _ _ z => s _ _ z⟩
/-- what tally gives of a row -/
structure IsTal (row : List Int) (ps : List (Int × Nat)) : Prop where
  pm : ps.Perm (tallyI row)
  ds : ps.Pairwise fun x y => y.1 ≤ x.1
theorem bump_len (n : Int) : ∀ ps : List (Int × Nat), (bump n ps).length ≤ ps.length + 1
  | [] => Nat.le_refl _
  | (a, m) :: ps => by
    rw [bump]
    by_cases c : a = n
    · rw [if_pos c]; simp
    · rw [if_neg c]
      have := bump_len n ps
      simp only [List.length_cons]; omega
theorem tally_len (row : List Int) : (tallyI row).length ≤ row.length := by
  have e : ∀ (row : List Int) ps, (row.foldl (fun ps n => bump n ps) ps).length ≤ ps.length + row.length := by
    intro row
    induction row with
    | nil => exact fun ps => Nat.le_refl _
    | cons n row ih =>
      intro ps
      have h1 := ih (bump n ps)
      have h2 := bump_len n ps
      simp only [List.foldl_cons, List.length_cons]
      omega
  have h := e row []
  rw [List.length_nil, Nat.zero_add] at h
  exact h
theorem IsTal.len {row : List Int} {ps : List (Int × Nat)} (h : IsTal row ps) : ps.length ≤ row.length := by rw [h.pm.length_eq]; exact tally_len row
theorem IsTal.spr {row : List Int} {ps : List (Int × Nat)} (h : IsTal row ps) : spread ps = rank row := spread_ranked h.pm h.ds (rank_perm row) (rank_desc row)
theorem IsTal.perm {row : List Int} {ps : List (Int × Nat)} (h : IsTal row ps) : (spread ps).Perm row := by rw [h.spr]; exact rank_perm row
/-- the dict under way -/
def dKof (ps : List (Int × Nat)) : List (Key × V) := ps.map fun q => (Sum.inl q.1, V.int (q.2 : Nat))
theorem val_tally (n : Int) : ∀ ps : List (Int × Nat), (valV (dKof ps) (Sum.inl n)).getD (.int 0) = .int (((ps.find? fun q => decide (q.1 = n)).map (·.2)).getD 0 : Nat)
  | [] => rfl
  | (a, m) :: ps => by
    show (valV ((Sum.inl a, V.int (m : Nat)) :: dKof ps) (Sum.inl n)).getD (.int 0) = _
    rw [List.find?_cons]
    by_cases c : a = n
    · rw [valV_pos (by show (Sum.inl a : Key) = Sum.inl n; rw [c])]
      simp [c]
    · rw [valV_neg (by show ¬ (Sum.inl a : Key) = Sum.inl n; intro z; cases z; exact c rfl), val_tally n ps]
      simp [c]
theorem any_dK (n : Int) (ps : List (Int × Nat)) : ((dKof ps).any fun kv => decide (kv.1 = (Sum.inl n : Key))) = decide (n ∈ ps.map (·.1)) := by
  induction ps with
  | nil => rfl
  | cons q ps ih =>
    show (decide ((Sum.inl q.1 : Key) = Sum.inl n) || (dKof ps).any fun kv => decide (kv.1 = (Sum.inl n : Key))) = _
    rw [ih]
    by_cases c : q.1 = n
    · simp [c]
    · have c' : ¬ n = q.1 := fun z => c z.symm
      have c2 : ¬ (Sum.inl q.1 : Key) = Sum.inl n := fun z => by cases z; exact c rfl
      simp [c', c2]
theorem bump_new {n : Int} : ∀ {ps : List (Int × Nat)}, n ∉ ps.map (·.1) → bump n ps = ps ++ [(n, 1)] ∧ (ps.find? fun q => decide (q.1 = n)) = none
  | [], _ => ⟨rfl, rfl⟩
  | (a, m) :: ps, h => by
    have c : ¬ a = n := fun z => h (by rw [← z]; exact List.mem_cons_self ..)
    obtain ⟨h1, h2⟩ := bump_new (n := n) (ps := ps) fun z => h (List.mem_cons_of_mem _ z)
    rw [bump, if_neg c, h1, List.find?_cons]
    exact ⟨rfl, by simp [c, h2]⟩
theorem bump_old {n : Int} : ∀ {ps : List (Int × Nat)}, (ps.map (·.1)).Nodup → n ∈ ps.map (·.1) →
    dKof (bump n ps) = (dKof ps).map fun kv => if kv.1 = (Sum.inl n : Key) then (kv.1, V.int ((((ps.find? fun q => decide (q.1 = n)).map (·.2)).getD 0 : Nat) + 1)) else kv
  | [], _, h => by simp at h
  | (a, m) :: ps, nd, h => by
    rw [List.map_cons, List.nodup_cons] at nd
    rw [bump, List.find?_cons]
    by_cases c : a = n
    · subst c
      rw [if_pos rfl]
      have keep : (dKof ps).map (fun kv => if kv.1 = (Sum.inl a : Key) then (kv.1, V.int ((m : Nat) + 1)) else kv) = dKof ps := by
        unfold dKof
        rw [List.map_map]
        refine List.map_congr_left fun q hq => ?_
        have : ¬ (Sum.inl q.1 : Key) = Sum.inl a := fun z => by
          cases z
          exact nd.1 (List.mem_map.mpr ⟨q, hq, rfl⟩)
        show (if (Sum.inl q.1 : Key) = Sum.inl a then _ else _) = _
        rw [if_neg this]
      show _ = (if (Sum.inl a : Key) = Sum.inl a then _ else _) :: (dKof ps).map _
      simp only [decide_true, Option.map_some, Option.getD_some, if_true]
      rw [keep]
      show (Sum.inl a, V.int ((m + 1 : Nat) : Int)) :: dKof ps = _
      rw [Int.natCast_add]; rfl
    · rw [if_neg c]
      have h' : n ∈ ps.map (·.1) := by
        rcases List.mem_cons.mp h with z | z
        · exact absurd z.symm c
        · exact z
      have ih := bump_old nd.2 h'
      show (Sum.inl a, V.int (m : Nat)) :: dKof (bump n ps) = (if (Sum.inl a : Key) = Sum.inl n then _ else _) :: (dKof ps).map _
      have c2 : ¬ (Sum.inl a : Key) = Sum.inl n := fun z => by cases z; exact c rfl
      rw [if_neg c2, ih]
      simp [c]
theorem put_tally {n : Int} {ps : List (Int × Nat)} (nd : (ps.map (·.1)).Nodup) : putK (dKof ps) (Sum.inl n) (.int ((((ps.find? fun q => decide (q.1 = n)).map (·.2)).getD 0 : Nat) + 1)) = dKof (bump n ps) := by
  unfold putK
  rw [any_dK]
  by_cases h : n ∈ ps.map (·.1)
  · rw [if_pos (decide_eq_true h), bump_old nd h]
  · rw [if_neg (by rw [decide_eq_false h]; exact Bool.false_ne_true)]
    obtain ⟨h1, h2⟩ := bump_new h
    rw [h1, h2]
    unfold dKof
    rw [List.map_append]; rfl
theorem tally_snoc {row : List Int} {i : Nat} {n : Int} (h : row[i]? = some n) : tallyI (row.take (i + 1)) = bump n (tallyI (row.take i)) := by
  unfold tallyI
  rw [List.take_succ, h]
  show List.foldl _ _ (row.take i ++ [n]) = _
  rw [List.foldl_append]; rfl
theorem rd_dget2 {td ty tx : TE} {σ : L2.St} {H : Hp} {Q : VK} (h : td σ H fun x H1 => ∃ a, x = .ref a ∧ IsD H1 a ∧ ty σ H1 fun y H2 => tx σ H2 fun z H3 => ∃ o, DGet H3 a y o ∧ Q (o.getD z) H3) : tDGet2 td ty tx σ H Q := h
theorem rd_ckw {r : List V → List V → Hp → VK → Prop} {t tk : TA} {σ : L2.St} {H : Hp} {Q : VK} (h : t σ H fun vs H1 => tk σ H1 fun zs H2 => r vs zs H2 Q) : tCKw r t tk σ H Q := h
def spSeen : L2.Sp := fun vs H Q _ => ∃ (v : Addr) (b : Int) (w : Int × List Int), vs = [.ref v, .int b] ∧ ViewF H v w ∧ Q (.int (w.2.count b : Nat)) H
def spTally : L2.Sp := fun vs H Q _ => ∃ (r : Addr) (row : List Int), vs = [.ref r] ∧ RowT H r row ∧ row.length ≤ 1000 ∧ ∀ H' t ps, Same H H' → TalAt H' t ps → IsTal row ps → Q (.ref t) H'
def spTSum : L2.Sp := fun vs H Q _ => ∃ (t : Addr) (row : List Int) (ps : List (Int × Nat)), vs = [.ref t] ∧ TalAt H t ps ∧ IsTal row ps ∧ row.length ≤ 1000 ∧ (∀ x ∈ row, 0 ≤ x ∧ x ≤ 1000) ∧ ∀ H', Same H H' → Q (.int (sumI row)) H'
def spTLen : L2.Sp := fun vs H Q _ => ∃ (t : Addr) (row : List Int) (ps : List (Int × Nat)), vs = [.ref t] ∧ TalAt H t ps ∧ IsTal row ps ∧ row.length ≤ 1000 ∧ ∀ H', Same H H' → Q (.int (row.length : Nat)) H'
def spGreat : L2.Sp := fun vs H Q _ => ∃ (t : Addr) (row : List Int) (ps : List (Int × Nat)), vs = [.ref t] ∧ TalAt H t ps ∧ IsTal row ps ∧ row.length ≤ 1000 ∧ (∀ x ∈ row, 0 ≤ x ∧ x ≤ 1000) ∧ ∀ H' g, Same H H' → 0 ≤ g → g ≤ 1000 → (∀ x ∈ row, x ≤ g) → Q (.int g) H'
theorem sum_nm : ∀ ps : List (Int × Nat), (ps.map fun e => e.1 * (e.2 : Int)).sum = sumI (spread ps)
  | [] => rfl
  | (n, m) :: ps => by
    show n * (m : Int) + (ps.map fun e => e.1 * (e.2 : Int)).sum = sumI (List.replicate m n ++ spread ps)
    rw [sumI_app, sumI_rep, sum_nm ps, Int.mul_comm]
theorem sum_m : ∀ ps : List (Int × Nat), (ps.map fun e => ((e.2 : Nat) : Int)).sum = ((spread ps).length : Nat)
  | [] => rfl
  | (n, m) :: ps => by
    show (m : Int) + (ps.map fun e => ((e.2 : Nat) : Int)).sum = ((List.replicate m n ++ spread ps).length : Nat)
    rw [List.length_append, List.length_replicate, sum_m ps, Int.natCast_add]
theorem spread_in {x : Int} {ps : List (Int × Nat)} (h : x ∈ spread ps) : x ∈ ps.map (·.1) := by
  obtain ⟨q, hq, e⟩ := spread_mem h
  rw [← e]; exact List.mem_map_of_mem hq
theorem tally_mem {row : List Int} {q : Int × Nat} (h : q ∈ tallyI row) : q.1 ∈ row := by
  have e : ∀ (row : List Int) ps, q ∈ row.foldl (fun ps n => bump n ps) ps → q.1 ∈ row ∨ q.1 ∈ ps.map (·.1) := by
    intro row
    induction row with
    | nil => exact fun ps h => .inr (List.mem_map_of_mem h)
    | cons n row ih =>
      intro ps h
      rcases ih _ h with z | z
      · exact .inl (List.mem_cons_of_mem _ z)
      · obtain ⟨q', hq', e⟩ := List.mem_map.mp z
        rcases bump_mem hq' with y | y
        · exact .inl (by rw [← e, y]; exact List.mem_cons_self ..)
        · exact .inr (by rw [← e]; exact y)
  rcases e row [] h with z | z
  · exact z
  · simp at z
theorem most_ge {d : Int} {l : List Int} : ∀ x ∈ l, x ≤ mostI d l := fun x hx => by
  cases l with
  | nil => cases hx
  | cons y l => exact (foldmax l y).2 x hx
theorem most_in {l : List Int} (h : ∀ x ∈ l, 0 ≤ x ∧ x ≤ 1000) : 0 ≤ mostI 0 l ∧ mostI 0 l ≤ 1000 := by
  cases l with
  | nil => exact ⟨Int.le_refl _, by show (0 : Int) ≤ 1000; decide⟩
  | cons y l => exact h _ (foldmax l y).1
section
variable {P : Program} {w : World} {K : PySem.W.Frag} {mg : Str → Option Value} {base : Heap} (T : TX K mg)
theorem G_seen : FnOk P w K mg base CX0 1 T.f_seen T.d_seen ["view", "mode"] spSeen := by
  refine T.F_seen.ok sc_seen (fun vs H Q E h => ?_) fun cdv A outer s H vs Q E hr h => ⟨_, (pss_one (ps_ret (pe_bmF PySem.F.slot_tuple_count PySem.F.type_tuple_count (mt_tcountK (K := K)) (pe_ix (ix_tupK (K := K)) (pv 0) pe_int (fun _ _ => rfl)) (pa_cons (pv 1) pa_nil)))), ?_⟩
  · obtain ⟨v, b, w, rfl, _⟩ := h
    rfl
  · obtain ⟨v, b, w, rfl, ⟨r, hv, hr2⟩, hQ⟩ := h
    walk_at "rd"
    refine rd_bmF ?_
    walk_at "rd"
    refine rd_ixT hv rfl ?_
    refine ⟨⟨r, _, rfl, hr2⟩, ?_⟩
    walk_at "rd"
    exact ⟨r, _, b, rfl, rfl, hr2.tup.sq, hQ⟩
theorem G_tally : FnOk P w K mg base CX0 1 T.f_tally T.d_tally ["row"] spTally := by
  refine T.F_tally.ok sc_tally (fun vs H Q E h => ?_) fun cdv A outer s H vs Q E hr h => ⟨_, (pss_cons (ps_set (i := 1) sc_tally.nd rfl (.inl rfl) pe_dnewK) (pss_cons (ps_for PassesOwn.never rfl (pi_tupK (K := K) (pv 0)) (pg_name (i := 2) sc_tally.nd rfl (.inl rfl)) (pss_one (ps_asg (pe_op op_add (pe_dget2 (room1 hr) (pv 1) (pv 2) pe_int ⟨rfl, rfl, rfl, rfl⟩) pe_int) (pg_sub (pv 1) (pv 2) (set_dict (room1 hr)))))) (pss_one (ps_ret (pe_tupleK (K := K) (by rfl) T.n_tuple (pe_callBK (cr_sortedItR rfl (b := true)) (by rfl) T.n_sorted (by decide +kernel) (by exact (pa_cons (pe_bm0T (K := K) PySem.F.plainAttrs_dict PySem.F.slot_dict_items PySem.F.type_dict_items mt_itemsK (pv 1)) pa_nil)) (by exact (pk_cons pe_bl pk_nil)))))))), ?_⟩
  · obtain ⟨r, row, rfl, _⟩ := h
    rfl
  · obtain ⟨r, row, rfl, ht, lr, hQ⟩ := h
    walk_at "rd"
    intro d hd
    walk_at "rd"
    have S0 : Same H (upd H d (.dK [])) := Same.fresh hd
    refine ⟨r, rfl, ⟨_, (ht.same S0).sq⟩, ?_⟩
    refine for_tup (xs := row.map V.int) (fun i σ H' => (∃ o2, σ = [some (.ref r), some (.ref d), o2]) ∧ Same H H' ∧ H' d = some (.dK (dKof (tallyI (row.take i))))) ⟨⟨_, rfl⟩, S0, upd_same⟩ (fun i σ H' _ pv => (ht.same pv.2.1).sq) (fun i x σ H' hx pv => ?_) (fun σ H' pv => ?_)
    · obtain ⟨⟨o2, rfl⟩, S, hd'⟩ := pv
      rw [List.getElem?_map] at hx
      obtain ⟨n, hn, rfl⟩ := Option.map_eq_some_iff.mp hx
      walk_at "rd"
      refine rd_dget2 ?_
      walk_at "rd"
      refine ⟨d, rfl, .inl ⟨_, .inl hd'⟩, ?_⟩
      walk_at "rd"
      refine ⟨_, DGet.k (k := Sum.inl n) hd', ?_⟩
      rw [val_tally]
      walk_at "rd"
      have ll : (dKof (tallyI (row.take i))).length < sizeLine := by
        unfold dKof
        rw [List.length_map]
        have h1 := tally_len (row.take i)
        have h2 : (row.take i).length ≤ row.length := by rw [List.length_take]; omega
        exact Nat.lt_of_le_of_lt (by omega : _ ≤ 1000) (by decide)
      refine ⟨d, _, rfl, DPut.k (k := Sum.inl n) hd' ll, ?_⟩
      rw [put_tally (tally_nd _), ← tally_snoc hn]
      walk_at "rd"
      exact ⟨⟨_, rfl⟩, Same.put S hd, upd_same⟩
    · obtain ⟨⟨o2, rfl⟩, S, hd'⟩ := pv
      rw [List.length_map, List.take_length] at hd'
      walk_at "rd"
      refine rd_ckw ?_
      walk_at "rd"
      refine rd_tyD hd' ?_
      refine ⟨d, _, rfl, rfl, hd', fun p hp => ?_⟩
      have S1 : Same H' (upd H' p (DX.itemsO p d)) := Same.fresh hp
      walk_at "rd"
      refine ⟨p, d, (tallyI row).map fun q => (q.1, ((q.2 : Nat) : Int)), rfl, rfl, upd_same, ?_, fun H2 l ts qs S2 l0 hl pm pt od => ?_⟩
      · rw [S1 _ _ hd', List.map_map]; rfl
      · refine rd_tupL hl ?_
        intro t H3 t0 S3 hT
        walk_at "rd"
        have key : ∀ q ∈ qs, ∃ e : Int × Nat, e ∈ tallyI row ∧ q = (e.1, ((e.2 : Nat) : Int)) := fun q hq => by
          obtain ⟨e, he, z⟩ := List.mem_map.mp (pm.mem_iff.mp hq)
          exact ⟨e, he, z.symm⟩
        have eqs : (qs.map fun q => (q.1, q.2.toNat)).map (fun e : Int × Nat => (e.1, ((e.2 : Nat) : Int))) = qs := by
          rw [List.map_map]
          refine (List.map_congr_left fun q hq => ?_).trans (List.map_id qs)
          obtain ⟨e, _, rfl⟩ := key q hq
          rfl
        refine hQ H3 t (qs.map fun q => (q.1, q.2.toNat)) (((S.trans S1).trans S2).trans S3) ⟨ts, Tup.of hT, ?_⟩ ⟨?_, ?_⟩
        · have gen : ∀ {ts : List Addr} {qs : List (Int × Int)}, (∀ q ∈ qs, ∃ e : Int × Nat, q = (e.1, ((e.2 : Nat) : Int))) → Paired (fun t q => upd H' p (DX.itemsO p d) t = none ∧ H2 t = some (.tup [.int q.1, .int q.2])) ts qs → Paired (PairT H3) ts (qs.map fun q => (q.1, q.2.toNat)) := fun {ts qs} k z => by
            induction z with
            | nil => exact .nil
            | cons a _ ih =>
              refine .cons ?_ (ih fun q hq => k q (List.mem_cons_of_mem _ hq))
              obtain ⟨e, rfl⟩ := k _ (List.mem_cons_self ..)
              exact S3 _ _ a.2
          exact gen (fun q hq => let ⟨e, _, z⟩ := key q hq; ⟨e, z⟩) pt
        · have h1 := pm.map fun q : Int × Int => (q.1, q.2.toNat)
          rw [List.map_map] at h1
          have h2 : (tallyI row).map ((fun q : Int × Int => (q.1, q.2.toNat)) ∘ fun q : Int × Nat => (q.1, ((q.2 : Nat) : Int))) = tallyI row := (List.map_congr_left fun q _ => rfl).trans (List.map_id _)
          rw [h2] at h1
          exact h1
        · rw [if_pos rfl] at od
          refine List.pairwise_map.mpr (od.imp fun {x y} z => ?_)
          show y.1 ≤ x.1
          have z2 : ¬ (x.1 < y.1 ∨ (x.1 = y.1 ∧ x.2 < y.2)) := fun h => by rw [SrtO.lexB_iff.mpr h] at z; cases z
          omega
/-- a comprehension over a tally: what is made of each pair -/
theorem tal_lc {t : Addr} {ps : List (Int × Nat)} {H : Hp} (h : TalAt H t ps) : ∃ qs : List Addr, Tup H t (qs.map V.ref) ∧ Paired (PairT H) qs ps ∧ qs.length = ps.length := by
  obtain ⟨qs, h1, h2⟩ := h
  exact ⟨qs, h1, h2, paired_len h2⟩
theorem tal_at {qs : List Addr} {ps : List (Int × Nat)} {H H' : Hp} (h : Paired (PairT H) qs ps) (S : Same H H') {i : Nat} {x z : V} {f : Int × Nat → Int} (hx : (qs.map V.ref)[i]? = some x) (hz : ((ps.map f).map V.int)[i]? = some z) :
    ∃ q e, e ∈ ps ∧ x = .ref q ∧ z = .int (f e) ∧ Tup H' q [.int e.1, .int (e.2 : Nat)] := by
  rw [List.map_map, List.getElem?_map] at hz
  obtain ⟨e, he, rfl⟩ := Option.map_eq_some_iff.mp hz
  rw [List.getElem?_map] at hx
  obtain ⟨q, hq, rfl⟩ := Option.map_eq_some_iff.mp hx
  obtain ⟨e', he', hqe⟩ := paired_get h hq
  rw [he] at he'
  cases he'
  exact ⟨q, e, List.mem_of_getElem? he, rfl, rfl, Tup.of (S _ _ hqe)⟩
theorem G_tally_sum : FnOk P w K mg base CX0 1 T.f_tally_sum T.d_tally_sum ["counted"] spTSum := by
  refine T.F_tally_sum.ok sc_tally_sum (fun vs H Q E h => ?_) fun cdv A outer s H vs Q E hr h => ⟨_, (pss_one (ps_ret (pe_callB (cr_sumK (K := K) rfl) (by rfl) T.n_sum (by decide +kernel) (by exact (pa_cons (by exact (pe_lc (own := [("number", 1), ("many", 2)]) (by rfl) sc_tally_sum.nd (pi_tupK (K := K) (pv 0)) (blkOk_by (own := [("number", 1), ("many", 2)]) (N := N_tally_sum) (sc := defScope s_tally_sum) (by decide +kernel)) (fun _ _ _ _ _ => (pg_tupK (K := K) (n := 2) (by rfl) (pgs_cons (pg_name (i := 1) sc_tally_sum.nd rfl (.inl rfl)) (pgs_cons (pg_name (i := 2) sc_tally_sum.nd rfl (.inl rfl)) pgs_nil)))) (fun _ _ _ _ _ => pts_nil) (fun _ _ _ _ _ => (pe_op op_mul (pv 1) (pv 2))) )) pa_nil))))), ?_⟩
  · obtain ⟨t, row, ps, rfl, _⟩ := h
    rfl
  · obtain ⟨t, row, ps, rfl, ht, it, lr, nn, hQ⟩ := h
    obtain ⟨qs, hq, pq, lq⟩ := tal_lc ht
    have lp := it.len
    walk_at "rd"
    refine ⟨t, rfl, ⟨_, hq.sq⟩, fun D hD => ?_⟩
    refine lcv_tup (xs := qs.map V.ref) ((ps.map fun e => e.1 * (e.2 : Int)).map V.int) hq (by simp only [List.length_map, lq]) (by simp only [List.length_map]; omega) hD (fun i x z H1 hx hz S1 R hR => ?_) (fun H1 S1 hD1 => ?_)
    · obtain ⟨q, e, hm, rfl, rfl, he⟩ := tal_at pq S1 hx hz
      have b := nn _ (tally_mem (it.pm.mem_iff.mp hm))
      refine rd_gtup he rfl ?_
      walk_at "rd"
      refine ⟨rfl, ?_⟩
      walk_at "rd"
      refine rd_rI (.inl ⟨by omega, by omega⟩) ?_
      exact hR H1 (Same.refl _)
    · walk_at "rd"
      refine rd_sum hD1 ?_
      rw [sum_nm, it.spr, sumI_perm (rank_perm row)]
      exact hQ H1 S1
theorem G_tally_length : FnOk P w K mg base CX0 1 T.f_tally_length T.d_tally_length ["counted"] spTLen := by
  refine T.F_tally_length.ok sc_tally_length (fun vs H Q E h => ?_) fun cdv A outer s H vs Q E hr h => ⟨_, (pss_one (ps_ret (pe_callB (cr_sumK (K := K) rfl) (by rfl) T.n_sum (by decide +kernel) (by exact (pa_cons (by exact (pe_lc (own := [("_", 1), ("many", 2)]) (by rfl) sc_tally_length.nd (pi_tupK (K := K) (pv 0)) (blkOk_by (own := [("_", 1), ("many", 2)]) (N := N_tally_length) (sc := defScope s_tally_length) (by decide +kernel)) (fun _ _ _ _ _ => (pg_tupK (K := K) (n := 2) (by rfl) (pgs_cons (pg_name (i := 1) sc_tally_length.nd rfl (.inl rfl)) (pgs_cons (pg_name (i := 2) sc_tally_length.nd rfl (.inl rfl)) pgs_nil)))) (fun _ _ _ _ _ => pts_nil) (fun _ _ _ _ _ => (pv 2)) )) pa_nil))))), ?_⟩
  · obtain ⟨t, row, ps, rfl, _⟩ := h
    rfl
  · obtain ⟨t, row, ps, rfl, ht, it, lr, hQ⟩ := h
    obtain ⟨qs, hq, pq, lq⟩ := tal_lc ht
    have lp := it.len
    walk_at "rd"
    refine ⟨t, rfl, ⟨_, hq.sq⟩, fun D hD => ?_⟩
    refine lcv_tup (xs := qs.map V.ref) ((ps.map fun e => ((e.2 : Nat) : Int)).map V.int) hq (by simp only [List.length_map, lq]) (by simp only [List.length_map]; omega) hD (fun i x z H1 hx hz S1 R hR => ?_) (fun H1 S1 hD1 => ?_)
    · obtain ⟨q, e, _, rfl, rfl, he⟩ := tal_at pq S1 hx hz
      refine rd_gtup he rfl ?_
      walk_at "rd"
      refine ⟨rfl, ?_⟩
      walk_at "rd"
      exact hR H1 (Same.refl _)
    · walk_at "rd"
      refine rd_sum hD1 ?_
      rw [sum_m, it.perm.length_eq]
      exact hQ H1 S1
theorem G_greatest_number : FnOk P w K mg base CX0 1 T.f_greatest_number T.d_greatest_number ["counted"] spGreat := by
  refine T.F_greatest_number.ok sc_greatest_number (fun vs H Q E h => ?_) fun cdv A outer s H vs Q E hr h => ⟨_, (pss_one (ps_ret (pe_callBK (cr_maxDefK (K := K) rfl hr.units) (by rfl) T.n_max (by decide +kernel) (by exact (pa_cons (by exact (pe_lc (own := [("number", 1), ("_", 2)]) (by rfl) sc_greatest_number.nd (pi_tupK (K := K) (pv 0)) (blkOk_by (own := [("number", 1), ("_", 2)]) (N := N_greatest_number) (sc := defScope s_greatest_number) (by decide +kernel)) (fun _ _ _ _ _ => (pg_tupK (K := K) (n := 2) (by rfl) (pgs_cons (pg_name (i := 1) sc_greatest_number.nd rfl (.inl rfl)) (pgs_cons (pg_name (i := 2) sc_greatest_number.nd rfl (.inl rfl)) pgs_nil)))) (fun _ _ _ _ _ => pts_nil) (fun _ _ _ _ _ => (pv 1)) )) pa_nil)) (by exact (pk_cons pe_int pk_nil))))), ?_⟩
  · obtain ⟨t, row, ps, rfl, _⟩ := h
    rfl
  · obtain ⟨t, row, ps, rfl, ht, it, lr, nn, hQ⟩ := h
    obtain ⟨qs, hq, pq, lq⟩ := tal_lc ht
    have lp := it.len
    walk_at "rd"
    refine rd_ckw ?_
    walk_at "rd"
    refine ⟨t, rfl, ⟨_, hq.sq⟩, fun D hD => ?_⟩
    refine lcv_tup (xs := qs.map V.ref) ((ps.map fun e => e.1).map V.int) hq (by simp only [List.length_map, lq]) (by simp only [List.length_map]; omega) hD (fun i x z H1 hx hz S1 R hR => ?_) (fun H1 S1 hD1 => ?_)
    · obtain ⟨q, e, _, rfl, rfl, he⟩ := tal_at pq S1 hx hz
      refine rd_gtup he rfl ?_
      walk_at "rd"
      refine ⟨rfl, ?_⟩
      walk_at "rd"
      exact hR H1 (Same.refl _)
    · walk_at "rd"
      refine ⟨D, ps.map fun e => e.1, 0, rfl, rfl, SqL.of hD1, ?_⟩
      have b : ∀ x ∈ ps.map (fun e => e.1), 0 ≤ x ∧ x ≤ 1000 := fun x hx => by
        obtain ⟨e, he, rfl⟩ := List.mem_map.mp hx
        exact nn _ (tally_mem (it.pm.mem_iff.mp he))
      obtain ⟨b0, b1⟩ := most_in b
      exact hQ H1 _ S1 b0 b1 fun x hx => most_ge x (spread_in (it.perm.mem_iff.mpr hx))
end
end K10

namespace K10
open PySem PySem.Spec PyProof.Rows L2 KX
local macro_rules | `(tactic| walk_at "rd1") => `(tactic| first
  | with_reducible refine rd_seq ?_
  | with_reducible refine rd_for ?_
  | with_reducible refine rd_lc ?_
  | with_reducible refine rd_asg ?_
  | ((with_reducible refine' rd_var ?rdv ?_); (case rdv => exact rfl))
  | with_reducible refine rd_c ?_
  | with_reducible refine rd_op ?_
  | with_reducible refine rd_un ?_
  | with_reducible refine rd_cons ?_
  | with_reducible refine rd_nil ?_
  | with_reducible refine rd_call ?_
  | with_reducible refine rd_cb ?_
  | with_reducible refine rd_tB ?_
  | with_reducible refine rd_test ?_
  | with_reducible refine rd_bl ?_
  | with_reducible refine rd_rI0 ?_
  | with_reducible refine rd_eqI ?_
  | with_reducible refine rd_neI ?_
  | with_reducible refine rd_rU ?_
  | with_reducible refine rd_name ?_
  | with_reducible refine rd_ifs ?_
  | with_reducible refine rd_and ?_
  | with_reducible refine rd_or ?_
  | with_reducible refine rd_not ?_
  | with_reducible refine rd_yes ?_
  | with_reducible refine rd_andV ?_
  | with_reducible refine rd_orV ?_
  | with_reducible refine rd_notV ?_
  | with_reducible refine rd_if ?_
  | with_reducible refine rd_isN ?_
  | with_reducible refine rd_iT ?_
  | with_reducible refine rd_iF ?_
  | with_reducible refine rd_ret ?_
  | with_reducible refine rd_retN ?_
  | with_reducible refine rd_drop ?_
  | with_reducible refine rd_next ?_
  | with_reducible refine rd_cont ?_
  | with_reducible refine rd_brk ?_
  | with_reducible refine rd_nx ?_
  | with_reducible refine rd_rt ?_
  | with_reducible refine rd_ct ?_
  | with_reducible refine rd_bk ?_
  | with_reducible refine rd_par ?_
  | with_reducible refine rd_par3 ?_
  | with_reducible refine rd_par2 ?_
  | with_reducible refine rd_par33 ?_
  | with_reducible refine rd_gcons ?_
  | with_reducible refine rd_gnil ?_
  | with_reducible refine rd_sub ?_
  | with_reducible refine rd_tup ?_
  | with_reducible refine rd_lst ?_
  | ((with_reducible refine rd_tupT ?hl ?_); (case hl => exact Nat.le_of_ble_eq_true rfl))
  | ((with_reducible refine rd_lstT ?hl ?_); (case hl => exact Nat.le_of_ble_eq_true rfl))
  | with_reducible refine rd_bm ?_
  | with_reducible refine rd_bm0 ?_
  | with_reducible refine rd_sl ?_
  | with_reducible refine rd_noP ?_
  | with_reducible refine rd_part ?_
  | with_reducible refine rd_int ?_
  | with_reducible refine rd_int1 ?_
  | with_reducible refine rd_fld ?_
  | with_reducible refine rd_then ?_
  | with_reducible refine rd_raise ?_
  | with_reducible refine rd_one ?_
  | with_reducible refine rd_sfld ?_
  | with_reducible refine rd_ilist ?_
  | with_reducible refine rd_itup ?_
  | with_reducible refine rd_rng1 ?_
  | with_reducible refine rd_enum ?_
  | with_reducible refine rd_enumT ?_)
local macro_rules | `(tactic| walk_at "rd") => `(tactic| repeat (walk_at "rd1"))
theorem ite_min (i j : Int) : (if j < i then j else i) = min i j := by split <;> omega
theorem rd_aug {i : Nat} {te : TE} {ti : TIp} {D : Ends} {σ : L2.St} {H : Hp} {x : V} (e : σ[i]? = some (some x)) (h : te σ H fun y H1 => ti x y H1 fun z H2 => D.nx (σ.set i (some z)) H2) : tAug i te ti D σ H := ⟨x, e, h⟩
theorem rd_ip {f : Int → Int → Int} {i j : Int} {H : Hp} {Q : VK} (h : Q (.int (f i j)) H) : ipI f (.int i) (.int j) H Q := ⟨i, j, rfl, rfl, h⟩
theorem rd_rng2 {ta : TA} {σ : L2.St} {H : Hp} {R : It → Hp → Prop} (h : ta σ H fun vs H1 => ∃ i j : Int, vs = [.int i, .int j] ∧ (-(2 ^ 62) ≤ i ∧ i < 2 ^ 62 ∧ -(2 ^ 62) ≤ j ∧ j < 2 ^ 62) ∧ R (Itr i (j - i).toNat) H1) : iRng2 ta σ H R := h
/-- a tally of a row of small numbers -/
structure TalOf (H : Hp) (t : Addr) (row : List Int) : Prop where
  at_ : ∃ ps, TalAt H t ps ∧ IsTal row ps
  lr : row.length ≤ 1000
  nn : ∀ x ∈ row, 0 ≤ x ∧ x ≤ 1000
theorem TalOf.same {H H' : Hp} {t : Addr} {row : List Int} (h : TalOf H t row) (s : Same H H') : TalOf H' t row := by
  obtain ⟨⟨ps, a, b⟩, c, d⟩ := h
  exact ⟨⟨ps, a.same s, b⟩, c, d⟩
theorem sum_cap (k : Nat) : ∀ ps : List (Int × Nat), (ps.map fun e => (e.2 : Int) * min e.1 (k : Int)).sum = sumI ((spread ps).map fun x => min x (k : Int))
  | [] => rfl
  | (n, m) :: ps => by
    show (m : Int) * min n (k : Int) + (ps.map fun e => (e.2 : Int) * min e.1 (k : Int)).sum = sumI ((List.replicate m n ++ spread ps).map fun x => min x (k : Int))
    rw [List.map_append, List.map_replicate, sumI_app, sumI_rep, sum_cap k ps]
/-- nothing, or a number -/
def oK : Option Nat → V
  | none => .non
  | some k => .int (k : Nat)
def spSplit : L2.Sp := fun vs H Q _ => ∃ (t : Addr) (row : List Int) (k : Nat), vs = [.ref t, .int (k : Nat)] ∧ TalOf H t row ∧ k ≤ 10000 ∧ ∀ H' u, Same H H' → Tup H' u [.int (topR row k), .int (restR row k)] → Q (.ref u) H'
def spBars : L2.Sp := fun vs H Q _ => ∃ (t : Addr) (row : List Int) (k : Nat), vs = [.ref t, .int (k : Nat)] ∧ TalOf H t row ∧ k ≤ 10000 ∧ ∀ H', Same H H' → Q (.bl (badRow row k)) H'
def spBar2 : L2.Sp := fun vs H Q _ => ∃ (t u : Addr) (l r : List Int) (k : Nat), vs = [.ref t, .ref u, .int (k : Nat)] ∧ TalOf H t l ∧ TalOf H u r ∧ k ≤ 10000 ∧ ∀ H', Same H H' → Q (.bl (badSides l r k)) H'
def spTF : L2.Sp := fun vs H Q _ => ∃ (t : Addr) (row : List Int), vs = [.ref t] ∧ TalOf H t row ∧ ∀ H', Same H H' → Q (oK (rowDue row)) H'
def spTF2 : L2.Sp := fun vs H Q _ => ∃ (t u : Addr) (l r : List Int), vs = [.ref t, .ref u] ∧ TalOf H t l ∧ TalOf H u r ∧ ∀ H', Same H H' → Q (oK (sidesDue l r)) H'
def spRF : L2.Sp := fun vs H Q _ => ∃ (t : Addr) (row : List Int), vs = [.ref t] ∧ RowT H t row ∧ row.length ≤ 1000 ∧ (∀ x ∈ row, 0 ≤ x ∧ x ≤ 1000) ∧ ∀ H', Same H H' → Q (oK (rowDue row)) H'
def spSF : L2.Sp := fun vs H Q _ => ∃ (t u : Addr) (l r : List Int), vs = [.ref t, .ref u] ∧ RowT H t l ∧ RowT H u r ∧ l.length ≤ 1000 ∧ r.length ≤ 1000 ∧ (∀ x ∈ l, 0 ≤ x ∧ x ≤ 1000) ∧ (∀ x ∈ r, 0 ≤ x ∧ x ≤ 1000) ∧ ∀ H', Same H H' → Q (oK (sidesDue l r)) H'
def ineqI (l r : List Int) (one : Bool) (k : Nat) : Bool := if k = 0 then (if one = true then decide (sumI l % 2 = 1) else !decide (sumI l = sumI r)) else (if one = true then badRow l k else badSides l r k)
theorem bars_ineq (l r : List Int) (one : Bool) (k : Nat) : barsI l r one k = (decide (k ≤ l.length) && ineqI l r one k) := rfl
def spRB : L2.Sp := fun vs H Q _ => ∃ (one : Bool) (t u : Addr) (l r : List Int) (k : Nat), vs = [.bl one, .ref t, .ref u, .int (k : Nat)] ∧ TalOf H t l ∧ TalOf H u r ∧ k ≤ 10000 ∧ ∀ H', Same H H' → Q (.bl (ineqI l r one k)) H'
section
variable {P : Program} {w : World} {K : PySem.W.Frag} {mg : Str → Option Value} {base : Heap} (T : TX K mg)
theorem G_split_sums : FnOk P w K mg base CX0 1 T.f_split_sums T.d_split_sums ["counted", "k"] spSplit := by
  refine T.F_split_sums.ok sc_split_sums (fun vs H Q E h => ?_) fun cdv A outer s H vs Q E hr h => ⟨_, (pss_cons (ps_set (i := 2) sc_split_sums.nd rfl (.inl rfl) pe_int) (pss_cons (ps_set (i := 3) sc_split_sums.nd rfl (.inl rfl) pe_int) (pss_cons (ps_set (i := 4) sc_split_sums.nd rfl (.inl rfl) (pv 1)) (pss_cons (ps_for PassesOwn.never rfl (pi_tupK (K := K) (pv 0)) (pg_tupK (K := K) (n := 2) (by rfl) (pgs_cons (pg_name (i := 5) sc_split_sums.nd rfl (.inl rfl)) (pgs_cons (pg_name (i := 6) sc_split_sums.nd rfl (.inl rfl)) pgs_nil))) (pss_cons (ps_set (i := 7) sc_split_sums.nd rfl (.inl rfl) (pe_callB (call_min2 rfl) (by rfl) T.n_min (by decide +kernel) (by exact (pa_cons (pv 4) (pa_cons (pv 6) pa_nil))))) (pss_cons (ps_aug (i := 4) sc_split_sums.nd rfl (.inl rfl) (pv 7) ip_sub) (pss_cons (ps_aug (i := 2) sc_split_sums.nd rfl (.inl rfl) (pe_op op_mul (pv 7) (pv 5)) ip_add) (pss_one (ps_aug (i := 3) sc_split_sums.nd rfl (.inl rfl) (pe_op op_mul (pe_op op_sub (pv 6) (pv 7)) (pe_callB (call_min2 rfl) (by rfl) T.n_min (by decide +kernel) (by exact (pa_cons (pv 5) (pa_cons (pv 1) pa_nil))))) ip_add)))))) (pss_one (ps_ret (pe_tup (pa_cons (pv 2) (pa_cons (pv 3) pa_nil))))))))), ?_⟩
  · obtain ⟨t, row, k, rfl, _⟩ := h
    rfl
  · obtain ⟨t, row, k, rfl, ⟨⟨ps, ht, it⟩, lr, nn⟩, k1, hQ⟩ := h
    obtain ⟨qs, hq, pq, lq⟩ := tal_lc ht
    walk_at "rd"
    refine ⟨t, rfl, ⟨_, hq.sq⟩, ?_⟩
    refine for_tup (xs := qs.map V.ref) (fun i σ H' => H' = H ∧ ∃ (top rest : Int) (wt : Nat) (o5 o6 o7 : Option V), σ = [some (.ref t), some (.int (k : Nat)), some (.int top), some (.int rest), some (.int (wt : Nat)), o5, o6, o7] ∧ splitI k (ps.drop i) wt top rest = splitI k ps k 0 0)
      ⟨rfl, 0, 0, k, _, _, _, rfl, rfl⟩ (fun i σ H' _ pv => by rw [pv.1]; exact hq.sq) (fun i x σ H' hx pv => ?_) (fun σ H' pv => ?_)
    · obtain ⟨rfl, top, rest, wt, o5, o6, o7, rfl, inv⟩ := pv
      rw [List.getElem?_map] at hx
      obtain ⟨q, hq2, rfl⟩ := Option.map_eq_some_iff.mp hx
      obtain ⟨e, he, hqe⟩ := paired_get pq hq2
      have bn := nn _ (tally_mem (it.pm.mem_iff.mp (List.mem_of_getElem? he)))
      obtain ⟨hi, he2⟩ := List.getElem?_eq_some_iff.mp he
      rw [List.drop_eq_getElem_cons hi, he2] at inv
      obtain ⟨n, m⟩ := e
      rw [splitI] at inv
      refine rd_gtup (Tup.of hqe) rfl ?_
      walk_at "rd"
      refine ⟨_, _, rfl, ?_⟩
      rw [ite_min]
      walk_at "rd"
      refine rd_aug rfl ?_
      walk_at "rd"
      refine rd_ip ?_
      walk_at "rd"
      refine rd_aug rfl ?_
      walk_at "rd"
      refine rd_rI (.inr ⟨by omega, by omega⟩) ?_
      refine rd_ip ?_
      walk_at "rd"
      refine rd_aug rfl ?_
      walk_at "rd"
      refine ⟨_, _, rfl, ?_⟩
      rw [ite_min]
      walk_at "rd"
      refine rd_rI (.inr ⟨by omega, by omega⟩) ?_
      refine rd_ip ?_
      have e1 : ((wt : Int) - min (wt : Int) (m : Int)) = ((wt - min wt m : Nat) : Int) := by omega
      have e2 : (min (wt : Int) (m : Int)) = ((min wt m : Nat) : Int) := by omega
      have e3 : ((m : Int) - ((min wt m : Nat) : Int)) = ((m - min wt m : Nat) : Int) := by omega
      refine ⟨rfl, top + ((min wt m : Nat) : Int) * n, rest + ((m - min wt m : Nat) : Int) * min n (k : Int), wt - min wt m, some (.int n), some (.int (m : Nat)), some (.int (min (wt : Int) (m : Int))), ?_, inv⟩
      rw [← e3, ← e2, ← e1]; rfl
    · obtain ⟨rfl, top, rest, wt, o5, o6, o7, rfl, inv⟩ := pv
      rw [List.length_map, lq, List.drop_length] at inv
      have inv2 : (top, rest) = splitI k ps k 0 0 := inv
      rw [split_eq, it.spr] at inv2
      walk_at "rd"
      intro u H1 u0 S1 hu
      have e1 : top = topR row k := (Prod.mk.inj inv2).1.trans (Int.zero_add _)
      have e2 : rest = restR row k := (Prod.mk.inj inv2).2.trans (Int.zero_add _)
      rw [e1, e2] at hu
      exact hQ H1 u S1 (Tup.of hu)
theorem G_tally_bars : FnOk P w K mg base CX0 2 T.f_tally_bars T.d_tally_bars ["counted", "k"] spBars := by
  refine T.F_tally_bars.ok sc_tally_bars (fun vs H Q E h => ?_) fun cdv A outer s H vs Q E hr h => ⟨_, (pss_cons (ps_asg (pe_call (G_split_sums T) (hr.mono (by decide)) (by rfl) T.m_split_sums T.F_split_sums.kp T.b_split_sums .nil pass0 (by exact (pa_cons (pv 0) (pa_cons (pv 1) pa_nil)))) (pg_tupK (K := K) (n := 2) (by rfl) (pgs_cons (pg_name (i := 2) sc_tally_bars.nd rfl (.inl rfl)) (pgs_cons (pg_name (i := 3) sc_tally_bars.nd rfl (.inl rfl)) pgs_nil)))) (pss_one (ps_ret (pe_cmpR op_gt (pv 2) (pe_op op_add (pe_op op_mul (pv 1) (pe_op op_sub (pv 1) pe_int)) (pv 3)) (nomark _))))), ?_⟩
  · obtain ⟨t, row, k, rfl, _⟩ := h
    rfl
  · obtain ⟨t, row, k, rfl, ht, k1, hQ⟩ := h
    walk_at "rd"
    refine ⟨t, row, k, rfl, ht, k1, fun H1 u S1 hu => ?_⟩
    refine rd_gtup hu rfl ?_
    walk_at "rd"
    refine rd_rI (.inl ⟨by omega, by omega⟩) ?_
    walk_at "rd"
    exact hQ H1 S1
theorem G_tallies_bar : FnOk P w K mg base CX0 2 T.f_tallies_bar T.d_tallies_bar ["left", "right", "k"] spBar2 := by
  refine T.F_tallies_bar.ok sc_tallies_bar (fun vs H Q E h => ?_) fun cdv A outer s H vs Q E hr h => ⟨_, (pss_one (ps_ret (pe_cmpR op_gt (pe_ix (ix_tupK (K := K)) (pe_call (G_split_sums T) (hr.mono (by decide)) (by rfl) T.m_split_sums T.F_split_sums.kp T.b_split_sums .nil pass0 (by exact (pa_cons (pv 0) (pa_cons (pv 2) pa_nil)))) pe_int (fun _ _ => rfl)) (pe_callB (cr_sumK (K := K) rfl) (by rfl) T.n_sum (by decide +kernel) (by exact (pa_cons (by exact (pe_lc (own := [("number", 3), ("many", 4)]) (by rfl) sc_tallies_bar.nd (pi_tupK (K := K) (pv 1)) (blkOk_by (own := [("number", 3), ("many", 4)]) (N := N_tallies_bar) (sc := defScope s_tallies_bar) (by decide +kernel)) (fun _ _ _ _ _ => (pg_tupK (K := K) (n := 2) (by rfl) (pgs_cons (pg_name (i := 3) sc_tallies_bar.nd rfl (.inl rfl)) (pgs_cons (pg_name (i := 4) sc_tallies_bar.nd rfl (.inl rfl)) pgs_nil)))) (fun _ _ _ _ _ => pts_nil) (fun _ _ _ _ _ => (pe_op op_mul (pv 4) (pe_callB (call_min2 rfl) (by rfl) T.n_min (by decide +kernel) (by exact (pa_cons (pv 3) (pa_cons (pv 2) pa_nil)))))) )) pa_nil))) (nomark _)))), ?_⟩
  · obtain ⟨t, u, l, r, k, rfl, _⟩ := h
    rfl
  · obtain ⟨t, u, l, r, k, rfl, ht, hu, k1, hQ⟩ := h
    walk_at "rd"
    refine ⟨t, l, k, rfl, ht, k1, fun H1 v S1 hv => ?_⟩
    walk_at "rd"
    refine rd_ixT hv rfl ?_
    walk_at "rd"
    obtain ⟨⟨ps, hp, it⟩, lr, nn⟩ := hu.same S1
    obtain ⟨qs, hq, pq, lq⟩ := tal_lc hp
    have lp := it.len
    refine ⟨u, rfl, ⟨_, hq.sq⟩, fun D hD => ?_⟩
    refine lcv_tup (xs := qs.map V.ref) ((ps.map fun e => (e.2 : Int) * min e.1 (k : Int)).map V.int) hq (by simp only [List.length_map, lq]) (by simp only [List.length_map]; omega) hD (fun i x z H2 hx hz S2 R hR => ?_) (fun H2 S2 hD2 => ?_)
    · obtain ⟨q, e, hm, rfl, rfl, he⟩ := tal_at pq S2 hx hz
      have bn := nn _ (tally_mem (it.pm.mem_iff.mp hm))
      refine rd_gtup he rfl ?_
      walk_at "rd"
      refine ⟨rfl, ?_⟩
      walk_at "rd"
      refine ⟨_, _, rfl, ?_⟩
      rw [ite_min]
      refine rd_rI (.inr ⟨by omega, by omega⟩) ?_
      exact hR H2 (Same.refl _)
    · walk_at "rd"
      refine rd_sum hD2 ?_
      walk_at "rd"
      rw [sum_cap, sumI_perm (it.perm.map _)]
      exact hQ H2 (S1.trans S2)
theorem G_tally_fault : FnOk P w K mg base CX0 3 T.f_tally_fault T.d_tally_fault ["counted"] spTF := by
  refine T.F_tally_fault.ok sc_tally_fault (fun vs H Q E h => ?_) fun cdv A outer s H vs Q E hr h => ⟨_, (pss_cons (ps_if (pt_cmpR op_eq (pe_op op_mod (pe_call (G_tally_sum T) (hr.mono (by decide)) (by rfl) T.m_tally_sum T.F_tally_sum.kp T.b_tally_sum .nil pass0 (by exact (pa_cons (pv 0) pa_nil))) pe_int) pe_int (nomark _)) (pss_one (ps_ret pe_int)) pss_nil) (pss_cons (ps_for PassesOwn.never rfl (pi_range2 (by rfl) T.n_range (by exact (pa_cons pe_int (pa_cons (pe_op op_add (pe_callB (call_min2 rfl) (by rfl) T.n_min (by decide +kernel) (by exact (pa_cons (pe_call (G_tally_length T) (hr.mono (by decide)) (by rfl) T.m_tally_length T.F_tally_length.kp T.b_tally_length .nil pass0 (by exact (pa_cons (pv 0) pa_nil))) (pa_cons (pe_call (G_greatest_number T) (hr.mono (by decide)) (by rfl) T.m_greatest_number T.F_greatest_number.kp T.b_greatest_number .nil pass0 (by exact (pa_cons (pv 0) pa_nil))) pa_nil)))) pe_int) pa_nil)))) (pg_name (i := 1) sc_tally_fault.nd rfl (.inl rfl)) (pss_one (ps_if (pt_val (pe_call (G_tally_bars T) (hr.mono (by decide)) (by rfl) T.m_tally_bars T.F_tally_bars.kp T.b_tally_bars .nil pass0 (by exact (pa_cons (pv 0) (pa_cons (pv 1) pa_nil))))) (pss_one (ps_ret (pv 1))) pss_nil))) (pss_one (ps_ret pe_non)))), ?_⟩
  · obtain ⟨t, row, rfl, _⟩ := h
    rfl
  · obtain ⟨t, row, rfl, ht, hQ⟩ := h
    obtain ⟨⟨ps, hp, it⟩, lr, nn⟩ := id ht
    walk_at "rd"
    refine ⟨t, row, ps, rfl, hp, it, lr, nn, fun H1 S1 => ?_⟩
    walk_at "rd"
    refine rd_rI (by decide) ?_
    walk_at "rd"
    by_cases c : sumI row % 2 = 1
    · refine iteT' (decide_eq_true c) ?_
      walk_at "rd"
      have q := hQ H1 S1
      unfold rowDue at q
      rw [if_pos c] at q
      exact q
    · refine iteF' (decide_eq_false c) ?_
      walk_at "rd"
      refine rd_rng2 ?_
      walk_at "rd"
      refine ⟨t, row, ps, rfl, hp.same S1, it, lr, fun H2 S2 => ?_⟩
      walk_at "rd"
      refine ⟨t, row, ps, rfl, (hp.same S1).same S2, it, lr, nn, fun H3 g S3 g0 g1 hg => ?_⟩
      walk_at "rd"
      refine ⟨_, _, rfl, ?_⟩
      rw [ite_min]
      walk_at "rd"
      refine ⟨1, _, rfl, ⟨by omega, by omega, by omega, by omega⟩, ?_⟩
      have en : (min ((row.length : Nat) : Int) g + 1 - 1).toNat = min row.length g.toNat := by omega
      rw [en]
      have S13 := (S1.trans S2).trans S3
      refine for_range (lo := 1) (n := min row.length g.toNat) (fun i σ H' => (∃ o1, σ = [some (.ref t), o1]) ∧ Same H H' ∧ ∀ j, j < i → badRow row (j + 1) = false) ⟨⟨_, rfl⟩, S13, fun j h => absurd h (by omega)⟩ (fun i σ H' hi pv => ?_) (fun σ H' pv => ?_)
      · obtain ⟨⟨o1, rfl⟩, S, hb⟩ := pv
        walk_at "rd"
        refine ⟨t, row, i + 1, by rw [show (1 : Int) + (i : Nat) = ((i + 1 : Nat) : Int) by omega]; rfl, ht.same S, by omega, fun H4 S4 => ?_⟩
        walk_at "rd"
        cases d : badRow row (i + 1) with
        | true =>
          refine rd_iT ?_
          walk_at "rd"
          have q := hQ H4 (S.trans S4)
          unfold rowDue at q
          rw [if_neg c, firstK_hit (by omega) hb d] at q
          rw [show (1 : Int) + (i : Nat) = ((i + 1 : Nat) : Int) by omega]
          exact q
        | false =>
          refine rd_iF ?_
          walk_at "rd"
          refine ⟨⟨_, rfl⟩, S.trans S4, fun j hj => ?_⟩
          by_cases e : j = i
          · rw [e]; exact d
          · exact hb j (by omega)
      · obtain ⟨⟨o1, rfl⟩, S, hb⟩ := pv
        walk_at "rd"
        have q := hQ H' S
        unfold rowDue at q
        rw [if_neg c, firstK_none fun j hj => ?_] at q
        · exact q
        · by_cases e : j < min row.length g.toNat
          · exact hb j e
          · exact badRow_far (g := g) (fun x hx => (nn x hx).1) hg (by omega)
theorem G_tallies_fault : FnOk P w K mg base CX0 3 T.f_tallies_fault T.d_tallies_fault ["left", "right"] spTF2 := by
  refine T.F_tallies_fault.ok sc_tallies_fault (fun vs H Q E h => ?_) fun cdv A outer s H vs Q E hr h => ⟨_, (pss_cons (ps_if (pt_cmpR op_ne (pe_call (G_tally_sum T) (hr.mono (by decide)) (by rfl) T.m_tally_sum T.F_tally_sum.kp T.b_tally_sum .nil pass0 (by exact (pa_cons (pv 0) pa_nil))) (pe_call (G_tally_sum T) (hr.mono (by decide)) (by rfl) T.m_tally_sum T.F_tally_sum.kp T.b_tally_sum .nil pass0 (by exact (pa_cons (pv 1) pa_nil))) (nomark _)) (pss_one (ps_ret pe_int)) pss_nil) (pss_cons (ps_for PassesOwn.never rfl (pi_range2 (by rfl) T.n_range (by exact (pa_cons pe_int (pa_cons (pe_op op_add (pe_callB (call_min2 rfl) (by rfl) T.n_min (by decide +kernel) (by exact (pa_cons (pe_call (G_tally_length T) (hr.mono (by decide)) (by rfl) T.m_tally_length T.F_tally_length.kp T.b_tally_length .nil pass0 (by exact (pa_cons (pv 0) pa_nil))) (pa_cons (pe_call (G_greatest_number T) (hr.mono (by decide)) (by rfl) T.m_greatest_number T.F_greatest_number.kp T.b_greatest_number .nil pass0 (by exact (pa_cons (pv 1) pa_nil))) pa_nil)))) pe_int) pa_nil)))) (pg_name (i := 2) sc_tallies_fault.nd rfl (.inl rfl)) (pss_one (ps_if (pt_val (pe_call (G_tallies_bar T) (hr.mono (by decide)) (by rfl) T.m_tallies_bar T.F_tallies_bar.kp T.b_tallies_bar .nil pass0 (by exact (pa_cons (pv 0) (pa_cons (pv 1) (pa_cons (pv 2) pa_nil)))))) (pss_one (ps_ret (pv 2))) pss_nil))) (pss_one (ps_ret pe_non)))), ?_⟩
  · obtain ⟨t, u, l, r, rfl, _⟩ := h
    rfl
  · obtain ⟨t, u, l, r, rfl, ht, hu, hQ⟩ := h
    obtain ⟨⟨ps, hp, it⟩, lr, nn⟩ := id ht
    obtain ⟨⟨rs, hrs, ir⟩, lr2, nn2⟩ := id hu
    walk_at "rd"
    refine ⟨t, l, ps, rfl, hp, it, lr, nn, fun H1 S1 => ?_⟩
    walk_at "rd"
    refine ⟨u, r, rs, rfl, hrs.same S1, ir, lr2, nn2, fun H2 S2 => ?_⟩
    have S12 := S1.trans S2
    walk_at "rd"
    by_cases c : sumI l = sumI r
    · refine iteF' (by simp [c]) ?_
      walk_at "rd"
      refine rd_rng2 ?_
      walk_at "rd"
      refine ⟨t, l, ps, rfl, hp.same S12, it, lr, fun H3 S3 => ?_⟩
      have S13 := S12.trans S3
      walk_at "rd"
      refine ⟨u, r, rs, rfl, hrs.same S13, ir, lr2, nn2, fun H4 g S4 g0 g1 hg => ?_⟩
      have S14 := S13.trans S4
      walk_at "rd"
      refine ⟨_, _, rfl, ?_⟩
      rw [ite_min]
      walk_at "rd"
      refine ⟨1, _, rfl, ⟨by omega, by omega, by omega, by omega⟩, ?_⟩
      have en : (min ((l.length : Nat) : Int) g + 1 - 1).toNat = min l.length g.toNat := by omega
      rw [en]
      refine for_range (lo := 1) (n := min l.length g.toNat) (fun i σ H' => (∃ o2, σ = [some (.ref t), some (.ref u), o2]) ∧ Same H H' ∧ ∀ j, j < i → badSides l r (j + 1) = false) ⟨⟨_, rfl⟩, S14, fun j h => absurd h (by omega)⟩ (fun i σ H' hi pv => ?_) (fun σ H' pv => ?_)
      · obtain ⟨⟨o2, rfl⟩, S, hb⟩ := pv
        walk_at "rd"
        refine ⟨t, u, l, r, i + 1, by rw [show (1 : Int) + (i : Nat) = ((i + 1 : Nat) : Int) by omega]; rfl, ht.same S, hu.same S, by omega, fun H5 S5 => ?_⟩
        walk_at "rd"
        cases d : badSides l r (i + 1) with
        | true =>
          refine rd_iT ?_
          walk_at "rd"
          have q := hQ H5 (S.trans S5)
          unfold sidesDue at q
          rw [if_pos c, firstK_hit (by omega) hb d] at q
          rw [show (1 : Int) + (i : Nat) = ((i + 1 : Nat) : Int) by omega]
          exact q
        | false =>
          refine rd_iF ?_
          walk_at "rd"
          refine ⟨⟨_, rfl⟩, S.trans S5, fun j hj => ?_⟩
          by_cases e : j = i
          · rw [e]; exact d
          · exact hb j (by omega)
      · obtain ⟨⟨o2, rfl⟩, S, hb⟩ := pv
        walk_at "rd"
        have q := hQ H' S
        unfold sidesDue at q
        rw [if_pos c, firstK_none fun j hj => ?_] at q
        · exact q
        · by_cases e : j < min l.length g.toNat
          · exact hb j e
          · exact badSides_far (g := g) (fun x hx => (nn x hx).1) hg (by omega) c
    · refine iteT' (by simp [c]) ?_
      walk_at "rd"
      have q := hQ H2 S12
      unfold sidesDue at q
      rw [if_neg c] at q
      exact q
theorem G_row_fault : FnOk P w K mg base CX0 4 T.f_row_fault T.d_row_fault ["row"] spRF := by
  refine T.F_row_fault.ok sc_row_fault (fun vs H Q E h => ?_) fun cdv A outer s H vs Q E hr h => ⟨_, (pss_one (ps_ret (pe_call (G_tally_fault T) (hr.mono (by decide)) (by rfl) T.m_tally_fault T.F_tally_fault.kp T.b_tally_fault .nil pass0 (by exact (pa_cons (pe_call (G_tally T) (hr.mono (by decide)) (by rfl) T.m_tally T.F_tally.kp T.b_tally .nil pass0 (by exact (pa_cons (pv 0) pa_nil))) pa_nil))))), ?_⟩
  · obtain ⟨t, row, rfl, _⟩ := h
    rfl
  · obtain ⟨t, row, rfl, ht, lr, nn, hQ⟩ := h
    walk_at "rd"
    refine ⟨t, row, rfl, ht, lr, fun H1 u ps S1 hu it => ?_⟩
    walk_at "rd"
    exact ⟨u, row, rfl, ⟨⟨ps, hu, it⟩, lr, nn⟩, fun H2 S2 => hQ H2 (S1.trans S2)⟩
theorem G_sides_fault : FnOk P w K mg base CX0 4 T.f_sides_fault T.d_sides_fault ["left", "right"] spSF := by
  refine T.F_sides_fault.ok sc_sides_fault (fun vs H Q E h => ?_) fun cdv A outer s H vs Q E hr h => ⟨_, (pss_one (ps_ret (pe_call (G_tallies_fault T) (hr.mono (by decide)) (by rfl) T.m_tallies_fault T.F_tallies_fault.kp T.b_tallies_fault .nil pass0 (by exact (pa_cons (pe_call (G_tally T) (hr.mono (by decide)) (by rfl) T.m_tally T.F_tally.kp T.b_tally .nil pass0 (by exact (pa_cons (pv 0) pa_nil))) (pa_cons (pe_call (G_tally T) (hr.mono (by decide)) (by rfl) T.m_tally T.F_tally.kp T.b_tally .nil pass0 (by exact (pa_cons (pv 1) pa_nil))) pa_nil)))))), ?_⟩
  · obtain ⟨t, u, l, r, rfl, _⟩ := h
    rfl
  · obtain ⟨t, u, l, r, rfl, ht, hu, ll, lr, nl, nr, hQ⟩ := h
    walk_at "rd"
    refine ⟨t, l, rfl, ht, ll, fun H1 v ps S1 hv it => ?_⟩
    walk_at "rd"
    refine ⟨u, r, rfl, hu.same S1, lr, fun H2 x rs S2 hx ir => ?_⟩
    walk_at "rd"
    exact ⟨v, x, l, r, rfl, ⟨⟨ps, hv.same S2, it⟩, ll, nl⟩, ⟨⟨rs, hx, ir⟩, lr, nr⟩, fun H3 S3 => hQ H3 ((S1.trans S2).trans S3)⟩
theorem G_rows_bar : FnOk P w K mg base CX0 3 T.f_rows_bar T.d_rows_bar ["alike", "left", "right", "k"] spRB := by
  refine T.F_rows_bar.ok sc_rows_bar (fun vs H Q E h => ?_) fun cdv A outer s H vs Q E hr h => ⟨_, (pss_cons (ps_if (pt_val (pv 0)) (pss_one (ps_ret (pe_ifExp (pt_cmpR op_eq (pv 3) pe_int (nomark _)) (pe_cmpR op_eq (pe_op op_mod (pe_call (G_tally_sum T) (hr.mono (by decide)) (by rfl) T.m_tally_sum T.F_tally_sum.kp T.b_tally_sum .nil pass0 (by exact (pa_cons (pv 1) pa_nil))) pe_int) pe_int (nomark _)) (pe_call (G_tally_bars T) (hr.mono (by decide)) (by rfl) T.m_tally_bars T.F_tally_bars.kp T.b_tally_bars .nil pass0 (by exact (pa_cons (pv 1) (pa_cons (pv 3) pa_nil))))))) pss_nil) (pss_one (ps_ret (pe_ifExp (pt_cmpR op_eq (pv 3) pe_int (nomark _)) (pe_cmpR op_ne (pe_call (G_tally_sum T) (hr.mono (by decide)) (by rfl) T.m_tally_sum T.F_tally_sum.kp T.b_tally_sum .nil pass0 (by exact (pa_cons (pv 1) pa_nil))) (pe_call (G_tally_sum T) (hr.mono (by decide)) (by rfl) T.m_tally_sum T.F_tally_sum.kp T.b_tally_sum .nil pass0 (by exact (pa_cons (pv 2) pa_nil))) (nomark _)) (pe_call (G_tallies_bar T) (hr.mono (by decide)) (by rfl) T.m_tallies_bar T.F_tallies_bar.kp T.b_tallies_bar .nil pass0 (by exact (pa_cons (pv 1) (pa_cons (pv 2) (pa_cons (pv 3) pa_nil))))))))), ?_⟩
  · obtain ⟨one, t, u, l, r, k, rfl, _⟩ := h
    rfl
  · obtain ⟨one, t, u, l, r, k, rfl, ht, hu, k1, hQ⟩ := h
    obtain ⟨⟨ps, hp, it⟩, lr, nn⟩ := id ht
    obtain ⟨⟨rs, hrs, ir⟩, lr2, nn2⟩ := id hu
    walk_at "rd"
    cases one with
    | true =>
      refine rd_iT ?_
      walk_at "rd"
      by_cases c : k = 0
      · subst c
        refine iteT' (by decide) ?_
        walk_at "rd"
        refine ⟨t, l, ps, rfl, hp, it, lr, nn, fun H1 S1 => ?_⟩
        walk_at "rd"
        refine rd_rI (by decide) ?_
        walk_at "rd"
        exact hQ H1 S1
      · refine iteF' (decide_eq_false (by omega)) ?_
        walk_at "rd"
        refine ⟨t, l, k, rfl, ht, k1, fun H1 S1 => ?_⟩
        have q := hQ H1 S1
        unfold ineqI at q
        rw [if_neg c, if_pos rfl] at q
        exact q
    | false =>
      refine rd_iF ?_
      walk_at "rd"
      by_cases c : k = 0
      · subst c
        refine iteT' (by decide) ?_
        walk_at "rd"
        refine ⟨t, l, ps, rfl, hp, it, lr, nn, fun H1 S1 => ?_⟩
        walk_at "rd"
        refine ⟨u, r, rs, rfl, hrs.same S1, ir, lr2, nn2, fun H2 S2 => ?_⟩
        walk_at "rd"
        exact hQ H2 (S1.trans S2)
      · refine iteF' (decide_eq_false (by omega)) ?_
        walk_at "rd"
        refine ⟨t, u, l, r, k, rfl, ht, hu, k1, fun H1 S1 => ?_⟩
        have q := hQ H1 S1
        unfold ineqI at q
        rw [if_neg c, if_neg Bool.false_ne_true] at q
        exact q
end
end K10

namespace K10
open PySem PySem.Spec PyProof.Rows L2 KX
local macro_rules | `(tactic| walk_at "rd1") => `(tactic| first
  | with_reducible refine rd_seq ?_
  | with_reducible refine rd_for ?_
  | with_reducible refine rd_lc ?_
  | with_reducible refine rd_asg ?_
  | ((with_reducible refine' rd_var ?rdv ?_); (case rdv => exact rfl))
  | with_reducible refine rd_c ?_
  | with_reducible refine rd_op ?_
  | with_reducible refine rd_un ?_
  | with_reducible refine rd_cons ?_
  | with_reducible refine rd_nil ?_
  | with_reducible refine rd_call ?_
  | with_reducible refine rd_cb ?_
  | with_reducible refine rd_tB ?_
  | with_reducible refine rd_test ?_
  | with_reducible refine rd_bl ?_
  | with_reducible refine rd_rI0 ?_
  | with_reducible refine rd_eqI ?_
  | with_reducible refine rd_neI ?_
  | with_reducible refine rd_rU ?_
  | with_reducible refine rd_name ?_
  | with_reducible refine rd_ifs ?_
  | with_reducible refine rd_and ?_
  | with_reducible refine rd_or ?_
  | with_reducible refine rd_not ?_
  | with_reducible refine rd_yes ?_
  | with_reducible refine rd_andV ?_
  | with_reducible refine rd_orV ?_
  | with_reducible refine rd_notV ?_
  | with_reducible refine rd_if ?_
  | with_reducible refine rd_isN ?_
  | with_reducible refine rd_iT ?_
  | with_reducible refine rd_iF ?_
  | with_reducible refine rd_ret ?_
  | with_reducible refine rd_retN ?_
  | with_reducible refine rd_drop ?_
  | with_reducible refine rd_next ?_
  | with_reducible refine rd_cont ?_
  | with_reducible refine rd_brk ?_
  | with_reducible refine rd_nx ?_
  | with_reducible refine rd_rt ?_
  | with_reducible refine rd_ct ?_
  | with_reducible refine rd_bk ?_
  | with_reducible refine rd_par ?_
  | with_reducible refine rd_par3 ?_
  | with_reducible refine rd_par2 ?_
  | with_reducible refine rd_par33 ?_
  | with_reducible refine rd_gcons ?_
  | with_reducible refine rd_gnil ?_
  | with_reducible refine rd_sub ?_
  | with_reducible refine rd_tup ?_
  | with_reducible refine rd_lst ?_
  | ((with_reducible refine rd_tupT ?hl ?_); (case hl => exact Nat.le_of_ble_eq_true rfl))
  | ((with_reducible refine rd_lstT ?hl ?_); (case hl => exact Nat.le_of_ble_eq_true rfl))
  | with_reducible refine rd_bm ?_
  | with_reducible refine rd_bm0 ?_
  | with_reducible refine rd_sl ?_
  | with_reducible refine rd_noP ?_
  | with_reducible refine rd_part ?_
  | with_reducible refine rd_int ?_
  | with_reducible refine rd_int1 ?_
  | with_reducible refine rd_fld ?_
  | with_reducible refine rd_then ?_
  | with_reducible refine rd_raise ?_
  | with_reducible refine rd_one ?_
  | with_reducible refine rd_sfld ?_
  | with_reducible refine rd_ilist ?_
  | with_reducible refine rd_itup ?_
  | with_reducible refine rd_rng1 ?_
  | with_reducible refine rd_enum ?_
  | with_reducible refine rd_enumT ?_)
local macro_rules | `(tactic| walk_at "rd") => `(tactic| repeat (walk_at "rd1"))
/-- a comprehension with a test over a list or a tuple, its values told -/
theorem lcf_both {K : PySem.W.Frag} {g : TG} {tt : TT} {te ti : TE} {vs : List Nat} {σ : L2.St} {H1 : Hp} {x : V} {xs : List V} {Q : Addr → Hp → Prop} {α : Type} (es : List α) (f : α → Option V) (hx : SqX K H1 x (some xs)) (hi : ∀ R : VK, R x H1 → ti σ H1 R) (le : es.length = xs.length) (hz : xs.length < 1000000)
    (hs : ∀ (i : Nat) (x : V) (e : α) (H' : Hp), xs[i]? = some x → es[i]? = some e → Same H1 H' → ∀ (R : VK) (N : Hp → Prop), (∀ z H4, f e = some z → Same H' H4 → R z H4) → (∀ H4, f e = none → Same H' H4 → N H4) →
      g x (wipe σ vs) H' fun σ2 H2 => wipe σ2 vs = wipe σ vs ∧ tt σ2 H2 fun b H3 => if b = true then te σ2 H3 R else N H3)
    (hd : ∀ H' D, Same H1 H' → H' D = some (.lst (es.filterMap f)) → Q D H') {R : It → Hp → Prop} (hR : R = fun J H1 => ∀ D, H1 D = none → ∃ W : Nat → Nat → Hp → Prop, (∃ m, W 0 m (upd H1 D (.lst []))) ∧ ∀ i m H, W i m H →
      (J.stop i H ∧ Q D H) ∨ (J.go i H ∧ ∃ Nx : Hp → Prop, (∀ H', Nx H' → ∃ m', m' < m ∧ W (i + 1) m' H') ∧ ∀ x H', J.yld i H x H' → g x (wipe σ vs) H' fun σ2 H2 => wipe σ2 vs = wipe σ vs ∧ tt σ2 H2 fun b H3 =>
        if b = true then te σ2 H3 fun y H4 => ∃ acc, H4 D = some (.lst acc) ∧ acc.length < sizeLine ∧ Nx (upd H4 D (.lst (acc ++ [y]))) else Nx H3)) : iList K ti σ H1 R ∨ iTup K ti σ H1 R := by
  subst hR
  cases hx with
  | lst h => exact .inl (hi _ ⟨_, rfl, ⟨_, SqL.of h⟩, fun D hD => lcf_list es f h le hz hD hs fun H' S e => hd H' D S e⟩)
  | tup h => exact .inr (hi _ ⟨_, rfl, ⟨_, h.sq⟩, fun D hD => lcf_tup es f h le hz hD hs fun H' S e => hd H' D S e⟩)
/-- a plan: a list or a tuple of views -/
structure PlanAt (K : PySem.W.Frag) (H : Hp) (x : V) (U : PlanI) : Prop where
  at_ : ∃ qs : List Addr, SqX K H x (some (qs.map V.ref)) ∧ Paired (ViewF H) qs U
  lv : U.length ≤ 1000
  ln : ∀ v ∈ U, v.2.length ≤ 1000
theorem views_same {H H' : Hp} {qs : List Addr} {U : PlanI} (h : Paired (ViewF H) qs U) (s : Same H H') : Paired (ViewF H') qs U := paired_mono h fun _ _ z => z.same s
theorem PlanAt.same {K : PySem.W.Frag} {H H' : Hp} {x : V} {U : PlanI} (h : PlanAt K H x U) (s : Same H H') : PlanAt K H' x U := by
  obtain ⟨⟨qs, a, b⟩, c, d⟩ := h
  exact ⟨⟨qs, sqx_same a s, views_same b s⟩, c, d⟩
theorem PlanAt.row {K : PySem.W.Frag} {H : Hp} {x : V} {U : PlanI} (h : PlanAt K H x U) (a b : Int) : (rowI U a b).length ≤ 1000 ∧ ∀ x ∈ rowI U a b, 0 ≤ x ∧ x ≤ 1000 :=
  ⟨Nat.le_trans (rowI_len U a b) h.lv, fun x hx => ⟨rowI_nn U a b x hx, rowI_le (d := 1000) h.ln a b x hx⟩⟩
theorem fm_row (a b : Int) : ∀ U : PlanI, U.filterMap (fun v => if v.1 = a then some (V.int (v.2.count b : Nat)) else none) = (rowI U a b).map V.int
  | [] => rfl
  | v :: U => by
    rw [List.filterMap_cons]
    have ih := fm_row a b U
    unfold rowI at ih ⊢
    rw [List.filter_cons]
    by_cases c : v.1 = a
    · simp [c, ih]
    · simp [c, ih]
theorem rd_chain {r r' : R2} {ta tb tc : TE} {σ : L2.St} {H : Hp} {Q : VK} (h : ta σ H fun x H1 => tb σ H1 fun y H2 => r x y H2 fun z H3 => ∃ k, z = .bl k ∧ (if k = true then tc σ H3 fun w' H4 => r' y w' H4 Q else Q (.bl false) H3)) : tChain r r' ta tb tc σ H Q := h
theorem rd_notN {ta : TE} {σ : L2.St} {H : Hp} {Q : VK} (h : ta σ H fun x H1 => Q (.bl (!decide (x = .non))) H1) : tNotN ta σ H Q := h
/-- a fault told -/
def FaultAt (H : Hp) (y : V) : Option (Int × Int × Nat) → Prop
  | none => y = .non
  | some (a, b, k) => ∃ t, y = .ref t ∧ Tup H t [.int a, .int b, .int (k : Nat)]
theorem FaultAt.same {H H' : Hp} {y : V} {o : Option (Int × Int × Nat)} (h : FaultAt H y o) (s : Same H H') : FaultAt H' y o := by
  cases o with
  | none => exact h
  | some z =>
    obtain ⟨a, b, k⟩ := z
    obtain ⟨t, e, h⟩ := h
    exact ⟨t, e, h.same s⟩
def isPF (U : PlanI) (a b : Int) (k : Nat) : Bool := (decide (a ≤ b) && decide (b < 4)) && barsI (rowI U a b) (rowI U b a) (decide (a = b)) k
/-- what is asked whether it tells a fault: what it is, and what the answer is -/
inductive AskX (K : PySem.W.Frag) (H : Hp) (U : PlanI) : V → Bool → Prop
  | oth {y : V} {n : String} (t : TyX K H y (.type n)) (h : kitB n "tuple" = some false) : AskX K H U y false
  | len {t : Addr} {ys : List V} (h : Tup H t ys) (n : ¬ ys.length = 3) : AskX K H U (.ref t) false
  | bad {t : Addr} {ys : List V} {os : List (Option Int)} (h : Tup H t ys) (n : ys.length = 3) (k : Paired (Kin K H) ys os) (b : os.all numB = false) : AskX K H U (.ref t) false
  | num {t : Addr} {a b : Int} {k : Nat} (h : Tup H t [.int a, .int b, .int (k : Nat)]) (a0 : 0 ≤ a) (b0 : 0 ≤ b) (hk : k ≤ 10000) : AskX K H U (.ref t) (isPF U a b k)
def spWR (K : PySem.W.Frag) : L2.Sp := fun vs H Q _ => ∃ (x : V) (a b : Int) (U : PlanI), vs = [x, .int a, .int b] ∧ PlanAt K H x U ∧ ∀ H' t, Same H H' → RowT H' t (rowI U a b) → Q (.ref t) H'
def spKR (K : PySem.W.Frag) : L2.Sp := fun vs H Q _ => ∃ (x : V) (a b : Int) (U : PlanI), vs = [x, .int a, .int b] ∧ PlanAt K H x U ∧ ∀ H' t l r, Same H H' → H' t = some (.tup [.ref l, .ref r]) → RowT H' l (rowI U a b) → RowT H' r (rowI U b a) → Q (.ref t) H'
def spKF (K : PySem.W.Frag) : L2.Sp := fun vs H Q _ => ∃ (x : V) (a b : Int) (U : PlanI), vs = [x, .int a, .int b] ∧ PlanAt K H x U ∧ ∀ H', Same H H' → Q (oK (kindDue U a b)) H'
def spPF (K : PySem.W.Frag) : L2.Sp := fun vs H Q _ => ∃ (x : V) (U : PlanI), vs = [x] ∧ PlanAt K H x U ∧ ∀ H' y, Same H H' → FaultAt H' y (faultI U) → Q y H'
def spIPF (K : PySem.W.Frag) : L2.Sp := fun vs H Q _ => ∃ (x y : V) (U : PlanI) (c : Bool), vs = [x, y] ∧ PlanAt K H x U ∧ AskX K H U y c ∧ ∀ H', Same H H' → Q (.bl c) H'
section
variable {P : Program} {w : World} {K : PySem.W.Frag} {mg : Str → Option Value} {base : Heap} (T : TX K mg)
theorem G_wanted_row : FnOk P w K mg base CX0 2 T.f_wanted_row T.d_wanted_row ["plan", "a", "b"] (spWR K) := by
  refine T.F_wanted_row.ok sc_wanted_row (fun vs H Q E h => ?_) fun cdv A outer s H vs Q E hr h => ⟨_, (pss_one (ps_ret (pe_tupleK (K := K) (by rfl) T.n_tuple (by exact (pe_lc (own := [("view", 3)]) (by rfl) sc_wanted_row.nd (PI.or (pi_listK (K := K) (pv 0)) (pi_tupK (K := K) (pv 0))) (blkOk_by (own := [("view", 3)]) (N := N_wanted_row) (sc := defScope s_wanted_row) (by decide +kernel)) (fun _ _ _ _ _ => (pg_name (i := 3) sc_wanted_row.nd rfl (.inl rfl))) (fun _ _ _ _ _ => pts_one (pt_cmpR op_eq (pe_ix (ix_tupK (K := K)) (pv 3) pe_int (fun _ _ => rfl)) (pv 1) (nomark _))) (fun _ _ _ _ _ => (pe_call (G_seen T) (hr.mono (by decide)) (by rfl) T.m_seen T.F_seen.kp T.b_seen .nil pass0 (by exact (pa_cons (pv 3) (pa_cons (pv 2) pa_nil))))) ))))), ?_⟩
  · obtain ⟨x, a, b, U, rfl, _⟩ := h
    rfl
  · obtain ⟨x, a, b, U, rfl, hp, hQ⟩ := h
    obtain ⟨⟨qs, hx, pv⟩, lv, ln⟩ := id hp
    have lq := paired_len pv
    walk_at "rd"
    refine lcf_both (xs := qs.map V.ref) U (fun v => if v.1 = a then some (V.int (v.2.count b : Nat)) else none) hx (fun R r => ⟨_, rfl, r⟩) (by rw [List.length_map, lq]) (by rw [List.length_map, lq]; omega) (fun i y e H1 hy he S1 R N hR hN => ?_) (fun H1 D S1 hD => ?_) rfl
    · rw [List.getElem?_map] at hy
      obtain ⟨q, hq, rfl⟩ := Option.map_eq_some_iff.mp hy
      obtain ⟨e', he', hqe⟩ := paired_get pv hq
      rw [he] at he'
      cases he'
      have hv := hqe.same S1
      obtain ⟨r, h1, h2⟩ := id hv
      walk_at "rd"
      refine ⟨rfl, ?_⟩
      walk_at "rd"
      refine rd_ixT h1 rfl ?_
      walk_at "rd"
      by_cases c : e.1 = a
      · refine iteT' (decide_eq_true c) ?_
        walk_at "rd"
        refine ⟨q, b, e, rfl, hv, ?_⟩
        exact hR _ H1 (by rw [if_pos c]) (Same.refl _)
      · refine iteF' (decide_eq_false c) ?_
        exact hN H1 (by rw [if_neg c]) (Same.refl _)
    · rw [fm_row] at hD
      refine rd_tupL hD ?_
      intro t H2 t0 S2 ht
      walk_at "rd"
      exact hQ H2 t (S1.trans S2) (Tup.of ht)
theorem G_kind_rows : FnOk P w K mg base CX0 3 T.f_kind_rows T.d_kind_rows ["plan", "a", "b"] (spKR K) := by
  refine T.F_kind_rows.ok sc_kind_rows (fun vs H Q E h => ?_) fun cdv A outer s H vs Q E hr h => ⟨_, (pss_one (ps_ret (pe_tup (pa_cons (pe_call (G_wanted_row T) (hr.mono (by decide)) (by rfl) T.m_wanted_row T.F_wanted_row.kp T.b_wanted_row .nil pass0 (by exact (pa_cons (pv 0) (pa_cons (pv 1) (pa_cons (pv 2) pa_nil))))) (pa_cons (pe_call (G_wanted_row T) (hr.mono (by decide)) (by rfl) T.m_wanted_row T.F_wanted_row.kp T.b_wanted_row .nil pass0 (by exact (pa_cons (pv 0) (pa_cons (pv 2) (pa_cons (pv 1) pa_nil))))) pa_nil))))), ?_⟩
  · obtain ⟨x, a, b, U, rfl, _⟩ := h
    rfl
  · obtain ⟨x, a, b, U, rfl, hp, hQ⟩ := h
    walk_at "rd"
    refine ⟨x, a, b, U, rfl, hp, fun H1 l S1 hl => ?_⟩
    walk_at "rd"
    refine ⟨x, b, a, U, rfl, hp.same S1, fun H2 r S2 hr2 => ?_⟩
    walk_at "rd"
    intro t H3 t0 S3 ht
    exact hQ H3 t l r ((S1.trans S2).trans S3) ht ((hl.same S2).same S3) (hr2.same S3)
theorem G_kind_fault : FnOk P w K mg base CX0 5 T.f_kind_fault T.d_kind_fault ["plan", "a", "b"] (spKF K) := by
  refine T.F_kind_fault.ok sc_kind_fault (fun vs H Q E h => ?_) fun cdv A outer s H vs Q E hr h => ⟨_, (pss_cons (ps_asg (pe_call (G_kind_rows T) (hr.mono (by decide)) (by rfl) T.m_kind_rows T.F_kind_rows.kp T.b_kind_rows .nil pass0 (by exact (pa_cons (pv 0) (pa_cons (pv 1) (pa_cons (pv 2) pa_nil))))) (pg_tupK (K := K) (n := 2) (by rfl) (pgs_cons (pg_name (i := 3) sc_kind_fault.nd rfl (.inl rfl)) (pgs_cons (pg_name (i := 4) sc_kind_fault.nd rfl (.inl rfl)) pgs_nil)))) (pss_one (ps_ret (pe_ifExp (pt_cmpR op_eq (pv 1) (pv 2) (nomark _)) (pe_call (G_row_fault T) (hr.mono (by decide)) (by rfl) T.m_row_fault T.F_row_fault.kp T.b_row_fault .nil pass0 (by exact (pa_cons (pv 3) pa_nil))) (pe_call (G_sides_fault T) (hr.mono (by decide)) (by rfl) T.m_sides_fault T.F_sides_fault.kp T.b_sides_fault .nil pass0 (by exact (pa_cons (pv 3) (pa_cons (pv 4) pa_nil)))))))), ?_⟩
  · obtain ⟨x, a, b, U, rfl, _⟩ := h
    rfl
  · obtain ⟨x, a, b, U, rfl, hp, hQ⟩ := h
    obtain ⟨l1, n1⟩ := hp.row a b
    obtain ⟨l2, n2⟩ := hp.row b a
    walk_at "rd"
    refine ⟨x, a, b, U, rfl, hp, fun H1 t l r S1 ht hl hr2 => ?_⟩
    refine rd_gtup (Tup.of ht) rfl ?_
    walk_at "rd"
    by_cases c : a = b
    · refine iteT' (decide_eq_true c) ?_
      walk_at "rd"
      refine ⟨l, _, rfl, hl, l1, n1, fun H2 S2 => ?_⟩
      have q := hQ H2 (S1.trans S2)
      unfold kindDue at q
      rw [if_pos c] at q
      exact q
    · refine iteF' (decide_eq_false c) ?_
      walk_at "rd"
      refine ⟨l, r, _, _, rfl, hl, hr2, l1, l2, n1, n2, fun H2 S2 => ?_⟩
      have q := hQ H2 (S1.trans S2)
      unfold kindDue at q
      rw [if_neg c] at q
      exact q
theorem G_plan_fault : FnOk P w K mg base CX0 6 T.f_plan_fault T.d_plan_fault ["plan"] (spPF K) := by
  refine T.F_plan_fault.ok sc_plan_fault (fun vs H Q E h => ?_) fun cdv A outer s H vs Q E hr h => ⟨_, (pss_cons (ps_for PassesOwn.never rfl (pi_tupK (K := K) (pe_glob (v := .ref T.c_KINDS) rfl T.m_KINDS rfl)) (pg_tupK (K := K) (n := 2) (by rfl) (pgs_cons (pg_name (i := 1) sc_plan_fault.nd rfl (.inl rfl)) (pgs_cons (pg_name (i := 2) sc_plan_fault.nd rfl (.inl rfl)) pgs_nil))) (pss_cons (ps_set (i := 3) sc_plan_fault.nd rfl (.inl rfl) (pe_call (G_kind_fault T) (hr.mono (by decide)) (by rfl) T.m_kind_fault T.F_kind_fault.kp T.b_kind_fault .nil pass0 (by exact (pa_cons (pv 0) (pa_cons (pv 1) (pa_cons (pv 2) pa_nil)))))) (pss_one (ps_if (pt_cmp (pc_notN (pv 3))) (pss_one (ps_ret (pe_tup (pa_cons (pv 1) (pa_cons (pv 2) (pa_cons (pv 3) pa_nil)))))) pss_nil)))) (pss_one (ps_ret pe_non))), ?_⟩
  · obtain ⟨x, U, rfl, _⟩ := h
    rfl
  · obtain ⟨x, U, rfl, hp, hQ⟩ := h
    obtain ⟨as, hK, pK⟩ := T.S_KINDS
    walk_at "rd"
    refine ⟨_, rfl, ⟨_, hK H⟩, ?_⟩
    refine for_tup (xs := as.map V.ref) (fun i σ H' => (∃ o1 o2 o3, σ = [some x, o1, o2, o3]) ∧ Same H H' ∧ faultL U (KI.drop i) = faultI U) ⟨⟨_, _, _, rfl⟩, Same.refl _, rfl⟩ (fun i σ H' _ pv => hK H') (fun i y σ H' hy pv => ?_) (fun σ H' pv => ?_)
    · obtain ⟨⟨o1, o2, o3, rfl⟩, S, inv⟩ := pv
      rw [List.getElem?_map] at hy
      obtain ⟨q, hq, rfl⟩ := Option.map_eq_some_iff.mp hy
      obtain ⟨e, he, hqe⟩ := paired_get pK hq
      obtain ⟨f1, f2⟩ := faultL_step he inv
      refine ⟨q, _, rfl, hqe H', rfl, ?_⟩
      walk_at "rd"
      refine ⟨x, e.1, e.2, U, rfl, hp.same S, fun H1 S1 => ?_⟩
      walk_at "rd"
      refine rd_notN ?_
      walk_at "rd"
      cases d : kindDue U e.1 e.2 with
      | none =>
        refine iteF' (by show (!decide (V.non = V.non)) = false; simp) ?_
        walk_at "rd"
        exact ⟨⟨_, _, _, rfl⟩, S.trans S1, f2 d⟩
      | some k =>
        refine iteT' (by show (!decide (V.int (k : Nat) = V.non)) = true; simp) ?_
        walk_at "rd"
        intro t H2 t0 S2 ht
        refine hQ H2 (.ref t) ((S.trans S1).trans S2) ?_
        rw [f1 k d]
        exact ⟨t, rfl, Tup.of ht⟩
    · obtain ⟨⟨o1, o2, o3, rfl⟩, S, inv⟩ := pv
      have la := paired_len pK
      rw [List.length_map, la] at inv
      walk_at "rd"
      refine hQ H' .non S ?_
      rw [← inv]
      rfl
theorem G_is_plan_fault : FnOk P w K mg base CX0 4 T.f_is_plan_fault T.d_is_plan_fault ["plan", "value"] (spIPF K) := by
  refine T.F_is_plan_fault.ok sc_is_plan_fault (fun vs H Q E h => ?_) fun cdv A outer s H vs Q E hr h => ⟨_, (pss_cons (ps_if (PW.pt (pw_or (pt_not (pt_val (pe_call (G_is_tuple_of T) (hr.mono (by decide)) (by rfl) T.m_is_tuple_of T.F_is_tuple_of.kp T.b_is_tuple_of .nil pass0 (by exact (pa_cons (pv 1) (pa_cons pe_int pa_nil)))))) (pw_or1 (pt_not (pt_val (pe_callB (cr_allK (K := K) rfl) (by rfl) T.n_all (by decide +kernel) (by exact (pa_cons (by exact (pe_lc (own := [("entry", 7)]) (by rfl) sc_is_plan_fault.nd (pi_tupK (K := K) (pv 1)) (blkOk_by (own := [("entry", 7)]) (N := N_is_plan_fault) (sc := defScope s_is_plan_fault) (by decide +kernel)) (fun _ _ _ _ _ => (pg_name (i := 7) sc_is_plan_fault.nd rfl (.inl rfl))) (fun _ _ _ _ _ => pts_nil) (fun _ _ _ _ _ => (pe_call (G_is_number T) (hr.mono (by decide)) (by rfl) T.m_is_number T.F_is_number.kp T.b_is_number .nil pass0 (by exact (pa_cons (pv 7) pa_nil)))) )) pa_nil)))))))) (pss_one (ps_ret pe_bl)) pss_nil) (pss_cons (ps_asg (pv 1) (pg_tupK (K := K) (n := 3) (by rfl) (pgs_cons (pg_name (i := 2) sc_is_plan_fault.nd rfl (.inl rfl)) (pgs_cons (pg_name (i := 3) sc_is_plan_fault.nd rfl (.inl rfl)) (pgs_cons (pg_name (i := 4) sc_is_plan_fault.nd rfl (.inl rfl)) pgs_nil))))) (pss_cons (ps_if (pt_not (pt_chain op_le op_lt (pv 2) (pv 3) (pe_glob (v := .int 4) rfl T.m_MOST_MODES ⟨_, rfl⟩))) (pss_one (ps_ret pe_bl)) pss_nil) (pss_cons (ps_asg (pe_call (G_kind_rows T) (hr.mono (by decide)) (by rfl) T.m_kind_rows T.F_kind_rows.kp T.b_kind_rows .nil pass0 (by exact (pa_cons (pv 0) (pa_cons (pv 2) (pa_cons (pv 3) pa_nil))))) (pg_tupK (K := K) (n := 2) (by rfl) (pgs_cons (pg_name (i := 5) sc_is_plan_fault.nd rfl (.inl rfl)) (pgs_cons (pg_name (i := 6) sc_is_plan_fault.nd rfl (.inl rfl)) pgs_nil)))) (pss_one (ps_ret (pe_and (pe_cmpR op_le (pv 4) (pe_callB (cr_lenK (K := K)) (by rfl) T.n_len (by decide +kernel) (by exact (pa_cons (pv 5) pa_nil))) (nomark _)) (pe_one (pe_call (G_rows_bar T) (hr.mono (by decide)) (by rfl) T.m_rows_bar T.F_rows_bar.kp T.b_rows_bar .nil pass0 (by exact (pa_cons (pe_cmpR op_eq (pv 2) (pv 3) (nomark _)) (pa_cons (pe_call (G_tally T) (hr.mono (by decide)) (by rfl) T.m_tally T.F_tally.kp T.b_tally .nil pass0 (by exact (pa_cons (pv 5) pa_nil))) (pa_cons (pe_call (G_tally T) (hr.mono (by decide)) (by rfl) T.m_tally T.F_tally.kp T.b_tally .nil pass0 (by exact (pa_cons (pv 6) pa_nil))) (pa_cons (pv 4) pa_nil)))))))))))))), ?_⟩
  · obtain ⟨x, y, U, c, rfl, _⟩ := h
    rfl
  · obtain ⟨x, y, U, c, rfl, hp, hy, hQ⟩ := h
    walk_at "rd"
    cases hy with
    | oth ty hk =>
      refine ⟨y, 3, rfl, .inl ⟨_, ty, hk, ?_⟩⟩
      walk_at "rd"
      exact hQ H (Same.refl H)
    | len ht n =>
      refine ⟨_, 3, rfl, .inr ⟨_, _, rfl, ht, ?_⟩⟩
      rw [decide_eq_false (by omega)]
      walk_at "rd"
      exact hQ H (Same.refl H)
    | @bad t ys os ht n k b =>
      refine ⟨_, 3, rfl, .inr ⟨_, _, rfl, ht, ?_⟩⟩
      rw [decide_eq_true (by omega)]
      walk_at "rd"
      have lk := paired_len k
      refine iteF' rfl ?_
      walk_at "rd"
      refine ⟨t, rfl, ⟨_, ht.sq⟩, fun D hD => ?_⟩
      refine lcv_tup (xs := ys) ((os.map numB).map V.bl) ht (by simp only [List.length_map, lk]) (by simp only [List.length_map]; omega) hD (fun i z z' H1 hx hz S1 R hR => ?_) (fun H1 S1 hD1 => ?_)
      · rw [List.map_map, List.getElem?_map] at hz
        obtain ⟨o, ho, rfl⟩ := Option.map_eq_some_iff.mp hz
        obtain ⟨o', ho', hk⟩ := paired_get k hx
        rw [ho] at ho'
        cases ho'
        walk_at "rd"
        refine ⟨rfl, ?_⟩
        walk_at "rd"
        exact ⟨_, _, rfl, kin_same hk S1, hR H1 (Same.refl _)⟩
      · walk_at "rd"
        refine rd_all hD1 ?_
        walk_at "rd"
        have e : (os.map numB).all id = false := by rw [List.all_map]; exact b
        rw [e]
        refine iteT' rfl ?_
        walk_at "rd"
        exact hQ H1 S1
    | @num t a b k ht a0 b0 hk =>
      refine ⟨_, 3, rfl, .inr ⟨_, _, rfl, ht, ?_⟩⟩
      rw [decide_eq_true (by rfl)]
      walk_at "rd"
      refine iteF' rfl ?_
      walk_at "rd"
      refine ⟨t, rfl, ⟨_, ht.sq⟩, fun D hD => ?_⟩
      refine lcv_tup (xs := [.int a, .int b, .int (k : Nat)]) ([true, true, true].map V.bl) ht rfl (by decide) hD (fun i z z' H1 hx hz S1 R hR => ?_) (fun H1 S1 hD1 => ?_)
      · have key : ∃ n : Int, z = .int n ∧ 0 ≤ n ∧ z' = .bl true := by
          match i, hx, hz with
          | 0, hx, hz => simp at hx hz; exact ⟨a, hx.symm, a0, hz.symm⟩
          | 1, hx, hz => simp at hx hz; exact ⟨b, hx.symm, b0, hz.symm⟩
          | 2, hx, hz => simp at hx hz; exact ⟨_, hx.symm, by omega, hz.symm⟩
          | i + 3, hx, hz => simp at hx
        obtain ⟨n, rfl, n0, rfl⟩ := key
        walk_at "rd"
        refine ⟨rfl, ?_⟩
        walk_at "rd"
        refine ⟨_, _, rfl, .int n, ?_⟩
        have e : numB (some n) = true := decide_eq_true n0
        rw [e]
        exact hR H1 (Same.refl _)
      · walk_at "rd"
        refine rd_all hD1 ?_
        walk_at "rd"
        refine iteF' rfl ?_
        walk_at "rd"
        refine rd_gtup (ht.same S1) rfl ?_
        walk_at "rd"
        refine rd_chain ?_
        walk_at "rd"
        by_cases c1 : a ≤ b
        · refine iteT' (decide_eq_true c1) ?_
          walk_at "rd"
          by_cases c2 : b < 4
          · rw [decide_eq_true c2]
            refine iteF' rfl ?_
            walk_at "rd"
            have hp1 := hp.same S1
            obtain ⟨l1, n1⟩ := hp.row a b
            obtain ⟨l2, n2⟩ := hp.row b a
            refine ⟨x, a, b, U, rfl, hp1, fun H2 u l r S2 hu hl hr2 => ?_⟩
            refine rd_gtup (Tup.of hu) rfl ?_
            walk_at "rd"
            refine rd_lenTup hl ?_
            rw [List.length_map]
            walk_at "rd"
            have ek : (decide (((k : Nat) : Int) ≤ ((rowI U a b).length : Nat))) = decide (k ≤ (rowI U a b).length) := by
              by_cases z : k ≤ (rowI U a b).length
              · rw [decide_eq_true z, decide_eq_true (by omega)]
              · rw [decide_eq_false z, decide_eq_false (by omega)]
            rw [ek]
            have val : isPF U a b k = (decide (k ≤ (rowI U a b).length) && ineqI (rowI U a b) (rowI U b a) (decide (a = b)) k) := by
              unfold isPF
              rw [decide_eq_true c1, decide_eq_true c2, bars_ineq]
              rfl
            rw [val] at hQ
            by_cases c3 : k ≤ (rowI U a b).length
            · rw [decide_eq_true c3] at hQ ⊢
              refine iteT' rfl ?_
              walk_at "rd"
              refine ⟨l, _, rfl, hl, l1, fun H3 v ps S3 hv it => ?_⟩
              walk_at "rd"
              refine ⟨r, _, rfl, hr2.same S3, l2, fun H4 y rs S4 hy ir => ?_⟩
              walk_at "rd"
              refine ⟨_, v, y, _, _, k, rfl, ⟨⟨ps, hv.same S4, it⟩, l1, n1⟩, ⟨⟨rs, hy, ir⟩, l2, n2⟩, hk, fun H5 S5 => ?_⟩
              exact hQ H5 (((S1.trans S2).trans (S3.trans S4)).trans S5)
            · rw [decide_eq_false c3] at hQ ⊢
              refine iteF' rfl ?_
              exact hQ H2 (S1.trans S2)
          · rw [decide_eq_false c2]
            refine iteT' rfl ?_
            walk_at "rd"
            have val : isPF U a b k = false := by unfold isPF; rw [decide_eq_false c2, Bool.and_false, Bool.false_and]
            rw [val] at hQ
            exact hQ H1 S1
        · refine iteF' (decide_eq_false c1) ?_
          walk_at "rd"
          have val : isPF U a b k = false := by unfold isPF; rw [decide_eq_false c1, Bool.false_and, Bool.false_and]
          rw [val] at hQ
          refine iteT' rfl ?_
          walk_at "rd"
          exact hQ H1 S1
end
end K10

namespace K10
open PySem PySem.Spec PyProof.Rows L2 KX
local macro_rules | `(tactic| walk_at "rd1") => `(tactic| first
  | with_reducible refine rd_seq ?_
  | with_reducible refine rd_for ?_
  | with_reducible refine rd_lc ?_
  | with_reducible refine rd_asg ?_
  | ((with_reducible refine' rd_var ?rdv ?_); (case rdv => exact rfl))
  | with_reducible refine rd_c ?_
  | with_reducible refine rd_op ?_
  | with_reducible refine rd_un ?_
  | with_reducible refine rd_cons ?_
  | with_reducible refine rd_nil ?_
  | with_reducible refine rd_call ?_
  | with_reducible refine rd_cb ?_
  | with_reducible refine rd_tB ?_
  | with_reducible refine rd_test ?_
  | with_reducible refine rd_bl ?_
  | with_reducible refine rd_rI0 ?_
  | with_reducible refine rd_eqI ?_
  | with_reducible refine rd_neI ?_
  | with_reducible refine rd_rU ?_
  | with_reducible refine rd_name ?_
  | with_reducible refine rd_ifs ?_
  | with_reducible refine rd_and ?_
  | with_reducible refine rd_or ?_
  | with_reducible refine rd_not ?_
  | with_reducible refine rd_yes ?_
  | with_reducible refine rd_andV ?_
  | with_reducible refine rd_orV ?_
  | with_reducible refine rd_notV ?_
  | with_reducible refine rd_if ?_
  | with_reducible refine rd_isN ?_
  | with_reducible refine rd_iT ?_
  | with_reducible refine rd_iF ?_
  | with_reducible refine rd_ret ?_
  | with_reducible refine rd_retN ?_
  | with_reducible refine rd_drop ?_
  | with_reducible refine rd_next ?_
  | with_reducible refine rd_cont ?_
  | with_reducible refine rd_brk ?_
  | with_reducible refine rd_nx ?_
  | with_reducible refine rd_rt ?_
  | with_reducible refine rd_ct ?_
  | with_reducible refine rd_bk ?_
  | with_reducible refine rd_par ?_
  | with_reducible refine rd_par3 ?_
  | with_reducible refine rd_par2 ?_
  | with_reducible refine rd_par33 ?_
  | with_reducible refine rd_gcons ?_
  | with_reducible refine rd_gnil ?_
  | with_reducible refine rd_sub ?_
  | with_reducible refine rd_tup ?_
  | with_reducible refine rd_lst ?_
  | ((with_reducible refine rd_tupT ?hl ?_); (case hl => exact Nat.le_of_ble_eq_true rfl))
  | ((with_reducible refine rd_lstT ?hl ?_); (case hl => exact Nat.le_of_ble_eq_true rfl))
  | with_reducible refine rd_bm ?_
  | with_reducible refine rd_bm0 ?_
  | with_reducible refine rd_sl ?_
  | with_reducible refine rd_noP ?_
  | with_reducible refine rd_part ?_
  | with_reducible refine rd_int ?_
  | with_reducible refine rd_int1 ?_
  | with_reducible refine rd_fld ?_
  | with_reducible refine rd_then ?_
  | with_reducible refine rd_raise ?_
  | with_reducible refine rd_one ?_
  | with_reducible refine rd_sfld ?_
  | with_reducible refine rd_ilist ?_
  | with_reducible refine rd_itup ?_
  | with_reducible refine rd_rng1 ?_
  | with_reducible refine rd_enum ?_
  | with_reducible refine rd_enumT ?_)
local macro_rules | `(tactic| walk_at "rd") => `(tactic| repeat (walk_at "rd1"))
def rowOf (R : List (List Int)) (a : Int) : List Int := R.getD a.toNat []
def appR (R : List (List Int)) (a b : Int) : List (List Int) := R.set a.toNat (rowOf R a ++ [b])
structure Rows (H : Hp) (N : Addr) (rs : List Addr) (R : List (List Int)) : Prop where
  at_ : H N = some (.lst (rs.map V.ref))
  rows : Paired (fun r (row : List Int) => H r = some (.lst (row.map V.int))) rs R
  nd : rs.Nodup
  out : N ∉ rs
theorem Rows.same {H H' : Hp} {N : Addr} {rs : List Addr} {R : List (List Int)} (h : Rows H N rs R) (s : Same H H') : Rows H' N rs R :=
  ⟨s _ _ h.at_, by
    have h2 := h.rows
    clear h
    induction h2 with
    | nil => exact .nil
    | cons a _ ih => exact .cons (s _ _ a) ih, h.nd, h.out⟩
theorem rowOf_get {R : List (List Int)} {a : Int} (h1 : a.toNat < R.length) : R[a.toNat]? = some (rowOf R a) := by
  unfold rowOf
  rw [List.getD_eq_getElem?_getD, List.getElem?_eq_getElem h1]; rfl
def emptyR (n : Nat) : List (List Int) := List.replicate n []
theorem appR_len (R : List (List Int)) (a b : Int) : (appR R a b).length = R.length := by unfold appR; simp
theorem rowOf_app {R : List (List Int)} {a b c : Int} (ne : a.toNat ≠ c.toNat) : rowOf (appR R a b) c = rowOf R c := by
  unfold rowOf appR
  rw [List.getD_eq_getElem?_getD, List.getD_eq_getElem?_getD, List.getElem?_set_ne ne]
theorem rowOf_app_self {R : List (List Int)} {a b : Int} (h : a.toNat < R.length) : rowOf (appR R a b) a = rowOf R a ++ [b] := by
  show (List.set R a.toNat (rowOf R a ++ [b])).getD a.toNat [] = rowOf R a ++ [b]
  rw [List.getD_eq_getElem?_getD, List.getElem?_set_self h]; rfl
theorem Rows.app {H : Hp} {N : Addr} {rs : List Addr} {R : List (List Int)} (h : Rows H N rs R) {a b : Int} {r : Addr} (hr : rs[a.toNat]? = some r) :
    Rows (upd H r (.lst ((rowOf R a).map V.int ++ [.int b]))) N rs (appR R a b) := by
  have mem : r ∈ rs := List.mem_of_getElem? hr
  refine ⟨by rw [upd_ne (fun z => h.out (by rw [z]; exact mem))]; exact h.at_, ?_, h.nd, h.out⟩
  have e0 : (rowOf R a).map V.int ++ [V.int b] = (rowOf R a ++ [b]).map V.int := by simp
  rw [e0]
  have gen : ∀ {l : List Addr} {m : List (List Int)} (k : Nat) (row : List Int), Paired (fun r (row : List Int) => H r = some (.lst (row.map V.int))) l m → l.Nodup → l[k]? = some r →
      Paired (fun q (row' : List Int) => upd H r (.lst (row.map V.int)) q = some (.lst (row'.map V.int))) l (m.set k row) := by
    intro l m k row p
    induction p generalizing k with
    | nil => intro _ z; simp at z
    | @cons x y l m hxy q ih =>
      intro nd z
      have nd' := (List.nodup_cons.mp nd)
      cases k with
      | zero =>
        simp at z
        subst z
        refine .cons (by show upd H x _ x = _; rw [upd_same]) ?_
        have gen2 : ∀ {l : List Addr} {m : List (List Int)}, Paired (fun r (row : List Int) => H r = some (.lst (row.map V.int))) l m → x ∉ l → Paired (fun q (row' : List Int) => upd H x (.lst (row.map V.int)) q = some (.lst (row'.map V.int))) l m := by
          intro l m p
          induction p with
          | nil => intro _; exact .nil
          | @cons u v l m huv _ ih2 =>
            intro hx
            refine .cons ?_ (ih2 fun z => hx (List.mem_cons_of_mem _ z))
            show upd H x _ u = _
            rw [upd_ne (fun z => hx (by rw [z]; exact List.mem_cons_self))]
            exact huv
        exact gen2 q nd'.1
      | succ j =>
        simp at z
        refine .cons ?_ (ih j nd'.2 z)
        show upd H r _ x = _
        rw [upd_ne (fun e => nd'.1 (by rw [e]; exact List.mem_of_getElem? z))]
        exact hxy
  exact gen a.toNat (rowOf R a ++ [b]) h.rows h.nd hr
theorem paired_get' {α β : Type} {F : α → β → Prop} {l : List α} {m : List β} (h : Paired F l m) : ∀ {i : Nat} {y : β}, m[i]? = some y → ∃ x, l[i]? = some x ∧ F x y := by
  induction h with
  | nil => intro i y h; simp at h
  | cons a _ ih =>
    intro i y h
    cases i with
    | zero => simp at h; subst h; exact ⟨_, rfl, a⟩
    | succ i => exact ih h
theorem Rows.row' {H : Hp} {N : Addr} {rs : List Addr} {R : List (List Int)} (h : Rows H N rs R) {a : Int} (a0 : 0 ≤ a) (a1 : a < R.length) : ∃ r, rs[a.toNat]? = some r ∧ atI (rs.map V.ref) a = some (.ref r) ∧ H r = some (.lst ((rowOf R a).map V.int)) := by
  have hn : a.toNat < R.length := by omega
  obtain ⟨r, e, hr⟩ := paired_get' h.rows (rowOf_get hn)
  refine ⟨r, e, ?_, hr⟩
  obtain ⟨n, rfl⟩ := Int.eq_ofNat_of_zero_le a0
  have en : ((n : Nat) : Int).toNat = n := by omega
  rw [en] at e
  exact atI_nat (by rw [List.getElem?_map, e]; rfl)
theorem paired_take {α β : Type} {F : α → β → Prop} {l : List α} {m : List β} (h : Paired F l m) : ∀ i, Paired F (l.take i) (m.take i) := by
  induction h with
  | nil => intro i; cases i <;> exact .nil
  | cons a _ ih =>
    intro i
    cases i with
    | zero => exact .nil
    | succ i => exact .cons a (ih i)
theorem paired_drop {α β : Type} {F : α → β → Prop} {l : List α} {m : List β} (h : Paired F l m) : ∀ i, Paired F (l.drop i) (m.drop i) := by
  induction h with
  | nil => intro i; cases i <;> exact .nil
  | cons a t ih =>
    intro i
    cases i with
    | zero => exact .cons a t
    | succ i => exact ih i
theorem paired_append {α β : Type} {F : α → β → Prop} {l l' : List α} {m m' : List β} (h : Paired F l m) (h' : Paired F l' m') : Paired F (l ++ l') (m ++ m') := by
  induction h with
  | nil => exact h'
  | cons a _ ih => exact .cons a ih
end K10

namespace K10
open PySem PySem.Spec PyProof.Rows L2 KX
local macro_rules | `(tactic| walk_at "rd1") => `(tactic| first
  | with_reducible refine rd_seq ?_
  | with_reducible refine rd_for ?_
  | with_reducible refine rd_lc ?_
  | with_reducible refine rd_asg ?_
  | ((with_reducible refine' rd_var ?rdv ?_); (case rdv => exact rfl))
  | with_reducible refine rd_c ?_
  | with_reducible refine rd_op ?_
  | with_reducible refine rd_un ?_
  | with_reducible refine rd_cons ?_
  | with_reducible refine rd_nil ?_
  | with_reducible refine rd_call ?_
  | with_reducible refine rd_cb ?_
  | with_reducible refine rd_tB ?_
  | with_reducible refine rd_test ?_
  | with_reducible refine rd_bl ?_
  | with_reducible refine rd_rI0 ?_
  | with_reducible refine rd_eqI ?_
  | with_reducible refine rd_neI ?_
  | with_reducible refine rd_rU ?_
  | with_reducible refine rd_name ?_
  | with_reducible refine rd_ifs ?_
  | with_reducible refine rd_and ?_
  | with_reducible refine rd_or ?_
  | with_reducible refine rd_not ?_
  | with_reducible refine rd_yes ?_
  | with_reducible refine rd_andV ?_
  | with_reducible refine rd_orV ?_
  | with_reducible refine rd_notV ?_
  | with_reducible refine rd_if ?_
  | with_reducible refine rd_isN ?_
  | with_reducible refine rd_iT ?_
  | with_reducible refine rd_iF ?_
  | with_reducible refine rd_ret ?_
  | with_reducible refine rd_retN ?_
  | with_reducible refine rd_drop ?_
  | with_reducible refine rd_next ?_
  | with_reducible refine rd_cont ?_
  | with_reducible refine rd_brk ?_
  | with_reducible refine rd_nx ?_
  | with_reducible refine rd_rt ?_
  | with_reducible refine rd_ct ?_
  | with_reducible refine rd_bk ?_
  | with_reducible refine rd_par ?_
  | with_reducible refine rd_par3 ?_
  | with_reducible refine rd_par2 ?_
  | with_reducible refine rd_par33 ?_
  | with_reducible refine rd_gcons ?_
  | with_reducible refine rd_gnil ?_
  | with_reducible refine rd_sub ?_
  | with_reducible refine rd_tup ?_
  | with_reducible refine rd_lst ?_
  | ((with_reducible refine rd_tupT ?hl ?_); (case hl => exact Nat.le_of_ble_eq_true rfl))
  | ((with_reducible refine rd_lstT ?hl ?_); (case hl => exact Nat.le_of_ble_eq_true rfl))
  | with_reducible refine rd_bm ?_
  | with_reducible refine rd_bm0 ?_
  | with_reducible refine rd_sl ?_
  | with_reducible refine rd_noP ?_
  | with_reducible refine rd_part ?_
  | with_reducible refine rd_int ?_
  | with_reducible refine rd_int1 ?_
  | with_reducible refine rd_fld ?_
  | with_reducible refine rd_then ?_
  | with_reducible refine rd_raise ?_
  | with_reducible refine rd_one ?_
  | with_reducible refine rd_sfld ?_
  | with_reducible refine rd_ilist ?_
  | with_reducible refine rd_itup ?_
  | with_reducible refine rd_rng1 ?_
  | with_reducible refine rd_enum ?_
  | with_reducible refine rd_enumT ?_)
local macro_rules | `(tactic| walk_at "rd") => `(tactic| repeat (walk_at "rd1"))
theorem tup_upd {H : Hp} {D a : Addr} {ys zs xs : List V} (h : Tup H a xs) (hD : H D = some (.lst zs)) : Tup (upd H D (.lst ys)) a xs := by
  rcases h with h | ⟨o, h⟩
  · exact .inl (by rw [upd_ne (fun e => by rw [e, hD] at h; cases h)]; exact h)
  · exact .inr ⟨o, by rw [upd_ne (fun e => by rw [e, hD] at h; cases h)]; exact h⟩
theorem tupF_upd {H : Hp} {D a : Addr} {ys zs xs : List V} (h : TupF H a xs) (hD : H D = some (.lst zs)) : TupF (upd H D (.lst ys)) a xs := by
  obtain ⟨o, h, z⟩ := h
  exact ⟨o, by rw [upd_ne (fun e => by rw [e, hD] at h; cases h)]; exact h, z⟩
theorem viewF_upd {H : Hp} {D v : Addr} {ys zs : List V} {w : Int × List Int} (h : ViewF H v w) (hD : H D = some (.lst zs)) : ViewF (upd H D (.lst ys)) v w := by
  obtain ⟨r, h1, h2⟩ := h
  exact ⟨r, tup_upd h1 hD, tupF_upd h2 hD⟩
theorem tup_fix {H H' : Hp} {p q a : Addr} {xs : List V} (f : Fix p q H H') (d : Deal H p q) (h : Tup H a xs) : Tup H' a xs := by
  rcases h with h | ⟨o, h⟩
  · exact .inl (f.keep d h fun _ e => by cases e)
  · exact .inr ⟨o, f.keep d h fun _ e => by cases e⟩
theorem viewF_fix {H H' : Hp} {p q v : Addr} {w : Int × List Int} (f : Fix p q H H') (d : Deal H p q) (h : ViewF H v w) : ViewF H' v w := by
  obtain ⟨r, h1, o, h2, z⟩ := h
  exact ⟨r, tup_fix f d h1, ⟨o, f.keep d h2 (fun _ e => by cases e), z⟩⟩
/-- a list of views -/
def VwL (H : Hp) (D : Addr) (U : PlanI) : Prop := ∃ vs : List Addr, H D = some (.lst (vs.map V.ref)) ∧ Paired (ViewF H) vs U ∧ ∀ v ∈ U, v.2.length ≤ 60
theorem VwL.same {H H' : Hp} {D : Addr} {U : PlanI} (h : VwL H D U) (s : Same H H') : VwL H' D U := by
  obtain ⟨vs, a, b, c⟩ := h
  exact ⟨vs, s _ _ a, views_same b s, c⟩
theorem VwL.fix {H H' : Hp} {p q D : Addr} {U : PlanI} (h : VwL H D U) (f : Fix p q H H') (d : Deal H p q) (n1 : D ≠ p) (n2 : D ≠ q) : VwL H' D U := by
  obtain ⟨vs, a, b, c⟩ := h
  exact ⟨vs, f _ _ n1 n2 a, paired_mono b fun _ _ z => viewF_fix f d z, c⟩
theorem VwL.snoc {H : Hp} {D v : Addr} {U : PlanI} {w : Int × List Int} (h : VwL H D U) (hv : ViewF H v w) (l : w.2.length ≤ 60) : ∃ xs, H D = some (.lst xs) ∧ xs.length = U.length ∧ VwL (upd H D (.lst (xs ++ [.ref v]))) D (U ++ [w]) := by
  obtain ⟨vs, a, b, c⟩ := h
  refine ⟨_, a, by rw [List.length_map, paired_len b], vs ++ [v], by rw [upd_same]; simp, ?_, fun x hx => ?_⟩
  · exact paired_append (paired_mono b fun _ _ z => viewF_upd z a) (.cons (viewF_upd hv a) .nil)
  · rcases List.mem_append.mp hx with z | z
    · exact c x z
    · rw [List.mem_singleton.mp z]; exact l
/-- how often a site is named by the links -/
def rowC (L : List (Int × Int)) (c : Int) : Nat := (L.filter fun e => decide (e.1 = c)).length + (L.filter fun e => decide (e.2 = c)).length
theorem rowC_snoc (L : List (Int × Int)) (a b c : Int) : rowC (L ++ [(a, b)]) c = rowC L c + (if a = c then 1 else 0) + (if b = c then 1 else 0) := by
  unfold rowC
  rw [List.filter_append, List.filter_append, List.length_append, List.length_append]
  have h1 : ([(a, b)].filter fun e : Int × Int => decide (e.1 = c)).length = if a = c then 1 else 0 := by
    by_cases z : a = c <;> simp [z]
  have h2 : ([(a, b)].filter fun e : Int × Int => decide (e.2 = c)).length = if b = c then 1 else 0 := by
    by_cases z : b = c <;> simp [z]
  rw [h1, h2]; omega
theorem rowC_take (L : List (Int × Int)) (j : Nat) (c : Int) : rowC (L.take j) c ≤ rowC L c := by
  have e : L = L.take j ++ L.drop j := (List.take_append_drop j L).symm
  have h1 : (L.filter fun e => decide (e.1 = c)).length = ((L.take j).filter fun e => decide (e.1 = c)).length + ((L.drop j).filter fun e => decide (e.1 = c)).length := by
    rw [← List.length_append, ← List.filter_append, List.take_append_drop]
  have h2 : (L.filter fun e => decide (e.2 = c)).length = ((L.take j).filter fun e => decide (e.2 = c)).length + ((L.drop j).filter fun e => decide (e.2 = c)).length := by
    rw [← List.length_append, ← List.filter_append, List.take_append_drop]
  unfold rowC
  omega
theorem rowC_len (L : List (Int × Int)) (c : Int) : rowC L c ≤ 2 * L.length := by
  unfold rowC
  have h1 := List.length_filter_le (fun e : Int × Int => decide (e.1 = c)) L
  have h2 := List.length_filter_le (fun e : Int × Int => decide (e.2 = c)) L
  omega
theorem rowC_good {n d : Nat} {L : List (Int × Int)} (g : Good n d L) (c : Int) : rowC L c ≤ 2 * d := by
  have h := g.deg c
  have e : ∀ (p : Int × Int → Bool), (∀ e, p e = true → inc c e = true) → (L.filter p).length ≤ (L.filter (inc c)).length := fun p hp => by
    have : (L.filter p) = (L.filter (inc c)).filter p := by
      rw [List.filter_filter]
      refine List.filter_congr fun x _ => ?_
      cases z : p x with
      | true => rw [hp x z]; rfl
      | false => rfl
    rw [this]; exact List.length_filter_le _ _
  have h1 := e (fun e => decide (e.1 = c)) fun e he => by unfold inc; rw [he]; rfl
  have h2 := e (fun e => decide (e.2 = c)) fun e he => by unfold inc; rw [he, Bool.or_true]
  unfold rowC
  omega
theorem rd_augS {to ti te : TE} {tget : V → V → Hp → VK → Prop} {tip : TIp} {tset : TSet} {D : Ends} {σ : L2.St} {H : Hp} (h : to σ H fun o H1 => ti σ H1 fun i H2 => tget o i H2 fun x H3 => te σ H3 fun y H4 => tip x y H4 fun z H5 => tset o i z H5 fun H6 => D.nx σ H6) : tAugS to ti te tget tip tset D σ H := h
theorem rd_getL {K : PySem.W.Frag} {p : Addr} {xs : List V} {k : Int} {v : V} {H : Hp} {Q : VK} (hp : H p = some (.lst xs)) (h0 : 0 ≤ k) (hv : xs[k.toNat]? = some v) (h : Q v H) : rGetL K (.ref p) (.int k) H Q := ⟨p, xs, k, v, rfl, rfl, SqL.of hp, h0, hv, h⟩
theorem rd_max2 {i j : Int} : (if j > i then j else i) = max i j := by split <;> omega
def spSight : L2.Sp := fun vs H Q _ => ∃ (a l : Addr) (ms : List Int) (ps : List Addr) (L : List (Int × Int)), vs = [.ref a, .ref l] ∧ H a = some (.lst (ms.map V.int)) ∧ H l = some (.lst (ps.map V.ref)) ∧ Paired (PairAt H) ps L ∧ ms.length ≤ 1000 ∧ (∀ e ∈ L, 0 ≤ e.1 ∧ e.1 < ms.length ∧ 0 ≤ e.2 ∧ e.2 < ms.length) ∧ (∀ c, rowC L c ≤ 60) ∧
  ∀ H' t U, Same H H' → H t = none → VwL H' t U → U.length = ms.length → Q (.ref t) H'
def spOther : L2.Sp := fun vs H Q _ => ∃ (p q : Addr) (k : Int) (d : V), vs = [.ref p, .int k, d] ∧ (d = .non ∨ ∃ n : Nat, d = .int n ∧ n ≤ 60) ∧ Deal H p q ∧ 1 ≤ k ∧ k ≤ 4 ∧ ∀ H' v w, Deal H' p q → Fix p q H H' → ViewF H' v w → w.2.length ≤ 60 → Q (.ref v) H'
def spTangle : L2.Sp := fun vs H Q _ => ∃ (p q : Addr) (k : Int) (n : Nat), vs = [.ref p, .int k, .int (n : Nat)] ∧ Deal H p q ∧ 1 ≤ k ∧ k ≤ 4 ∧ 1 ≤ n ∧ n ≤ 6 ∧
  ∀ (H' : Hp) (t a l : Addr) (ms : List Int) (ps : List Addr) (L : List (Int × Int)), Deal H' p q → Fix p q H H' → Tup H' t [.ref a, .ref l] → H' a = some (.lst (ms.map V.int)) → ms.length = n →
    H' l = some (.lst (ps.map V.ref)) → Paired (PairAt H') ps L → (∀ e ∈ L, 0 ≤ e.1 ∧ e.1 < (n : Nat) ∧ 0 ≤ e.2 ∧ e.2 < (n : Nat)) → (∀ c, rowC L c ≤ 60) → Q (.ref t) H'
section
variable {P : Program} {w : World} {K : PySem.W.Frag} {mg : Str → Option Value} {base : Heap} (T : TX K mg)
theorem G__law_sight : FnOk P w K mg base CX0 1 T.f__law_sight T.d__law_sight ["_law_modes", "_law_links_here"] spSight := by
  refine T.F__law_sight.ok sc__law_sight (fun vs H Q E h => ?_) fun cdv A outer s H vs Q E hr h => ⟨_, (pss_cons (ps_set (i := 2) sc__law_sight.nd rfl (.inr rfl) (by exact (pe_lc (own := [("_law_mode", 5)]) (by rfl) sc__law_sight.nd (pi_listK (K := K) (pv 0)) (blkOk_by (own := [("_law_mode", 5)]) (N := N__law_sight) (sc := defScope s__law_sight) (by decide +kernel)) (fun _ _ _ _ _ => (pg_name (i := 5) sc__law_sight.nd rfl (.inl rfl))) (fun _ _ _ _ _ => pts_nil) (fun _ _ _ _ _ => (pe_lst pa_nil)) ))) (pss_cons (ps_for PassesOwn.never rfl (pi_listK (K := K) (pv 1)) (pg_tupK (K := K) (n := 2) (by rfl) (pgs_cons (pg_name (i := 3) sc__law_sight.nd rfl (.inl rfl)) (pgs_cons (pg_name (i := 4) sc__law_sight.nd rfl (.inl rfl)) pgs_nil))) (pss_cons (ps_expr (pe_bmK (K := K) PySem.F.slot_list_append PySem.F.type_list_append mt_append (pe_ix (ix_listK (K := K)) (pv 2) (pv 3) (fun _ _ => rfl)) (by exact (pa_cons (pe_ix (ix_listK (K := K)) (pv 0) (pv 4) (fun _ _ => rfl)) pa_nil)))) (pss_one (ps_expr (pe_bmK (K := K) PySem.F.slot_list_append PySem.F.type_list_append mt_append (pe_ix (ix_listK (K := K)) (pv 2) (pv 4) (fun _ _ => rfl)) (by exact (pa_cons (pe_ix (ix_listK (K := K)) (pv 0) (pv 3) (fun _ _ => rfl)) pa_nil))))))) (pss_one (ps_ret (by exact (pe_lc (own := [("_law_site", 6), ("_law_mode", 5)]) (by rfl) sc__law_sight.nd (pi_enumK (K := K) (by rfl) T.n_enumerate (by exact (pa_cons (pv 0) pa_nil))) (blkOk_by (own := [("_law_site", 6), ("_law_mode", 5)]) (N := N__law_sight) (sc := defScope s__law_sight) (by decide +kernel)) (fun _ _ _ _ _ => (pg_tupK (K := K) (n := 2) (by rfl) (pgs_cons (pg_name (i := 6) sc__law_sight.nd rfl (.inl rfl)) (pgs_cons (pg_name (i := 5) sc__law_sight.nd rfl (.inl rfl)) pgs_nil)))) (fun _ _ _ _ _ => pts_nil) (fun _ _ _ _ _ => (pe_tup (pa_cons (pv 5) (pa_cons (pe_tupleFK (K := K) (by rfl) T.n_tuple (pe_callB (cr_sortedK (K := K)) (by rfl) T.n_sorted (by decide +kernel) (by exact (pa_cons (pe_ix (ix_listK (K := K)) (pv 2) (pv 6) (fun _ _ => rfl)) pa_nil)))) pa_nil)))) )))))), ?_⟩
  · obtain ⟨a, l, ms, ps, L, rfl, _⟩ := h
    rfl
  · obtain ⟨a, l, ms, ps, L, rfl, ha, hl, pL, lm, rng, cnt, hQ⟩ := h
    have lp := paired_len pL
    walk_at "rd"
    refine ⟨a, rfl, ⟨_, SqL.of ha⟩, fun N hN => ?_⟩
    refine lc_list (xs := ms.map V.int) (fun i H' => Same H H' ∧ ∃ rs : List Addr, rs.length = i ∧ H' N = some (.lst (rs.map V.ref)) ∧ (∀ r ∈ rs, H' r = some (.lst []) ∧ H r = none) ∧ rs.Nodup ∧ N ∉ rs)
      ⟨Same.fresh hN, [], rfl, upd_same, by simp, List.nodup_nil, by simp⟩ (fun i H' _ pv => SqL.of (pv.1 _ _ ha)) (fun i x H2 hx pv => ?_) (fun H2 pv => ?_)
    · obtain ⟨S2, rs, hl, hNr, hrs, nd, out⟩ := pv
      have hi := (List.getElem?_eq_some_iff.mp hx).1
      rw [List.length_map] at hi
      walk_at "rd"
      refine ⟨rfl, ?_⟩
      walk_at "rd"
      intro r H3 hr0 S3 hr3
      have hN3 := S3 _ _ hNr
      have nr : N ≠ r := fun z => by rw [z, hr0] at hNr; cases hNr
      have nrs : r ∉ rs := fun z => by
        have := (hrs r z).1
        rw [hr0] at this; cases this
      refine ⟨_, hN3, by rw [List.length_map, hl]; exact Nat.lt_of_lt_of_le (by omega : i < 1001) (by decide), Same.put (S2.trans S3) hN, rs ++ [r], by simp [hl], by rw [upd_same]; simp, fun q hq => ?_, ?_, ?_⟩
      · rcases List.mem_append.mp hq with h | h
        · have nq : q ≠ N := fun z => out (by rw [← z]; exact h)
          rw [upd_ne nq]
          exact ⟨S3 _ _ (hrs q h).1, (hrs q h).2⟩
        · rw [List.mem_singleton.mp h, upd_ne (Ne.symm nr)]
          exact ⟨hr3, S2.free hr0⟩
      · exact List.nodup_append.mpr ⟨nd, by simp, fun a ha b hb => by
          rw [List.mem_singleton.mp hb]
          exact fun z => nrs (by rw [← z]; exact ha)⟩
      · intro z
        rcases List.mem_append.mp z with h | h
        · exact out h
        · exact nr (List.mem_singleton.mp h)
    · obtain ⟨S2, rs, lrs, hNr, hrs, nd, out⟩ := pv
      rw [List.length_map] at lrs
      have R0 : Rows H2 N rs (emptyR ms.length) := by
        refine ⟨hNr, ?_, nd, out⟩
        have gen : ∀ l : List Addr, (∀ r ∈ l, H2 r = some (.lst [])) → Paired (fun r (row : List Int) => H2 r = some (.lst (row.map V.int))) l (List.replicate l.length []) := by
          intro l
          induction l with
          | nil => intro _; exact .nil
          | cons x l ih => intro h; exact .cons (h x List.mem_cons_self) (ih fun r hr => h r (List.mem_cons_of_mem _ hr))
        unfold emptyR
        rw [← lrs]
        exact gen rs fun r hr => (hrs r hr).1
      have fr : ∀ r ∈ rs, H r = none := fun r hr => (hrs r hr).2
      clear hrs hNr
      have rowE : ∀ c : Int, rowOf (emptyR ms.length) c = [] := fun c => by
        unfold rowOf emptyR
        rw [List.getD_eq_getElem?_getD, List.getElem?_replicate]
        split <;> rfl
      walk_at "rd"
      refine ⟨l, rfl, ⟨_, SqL.of (S2 _ _ hl)⟩, ?_⟩
      refine for_list (xs := ps.map V.ref) (fun j σ H' => (∃ o3 o4 o5 o6, σ = [some (.ref a), some (.ref l), some (.ref N), o3, o4, o5, o6]) ∧ Same H H' ∧ ∃ R, Rows H' N rs R ∧ R.length = ms.length ∧ ∀ c : Int, 0 ≤ c → c < ms.length → (rowOf R c).length = rowC (L.take j) c)
        ⟨⟨_, _, _, _, rfl⟩, S2, _, R0, by unfold emptyR; rw [List.length_replicate], fun c c0 c1 => by rw [rowE]; rfl⟩ (fun j σ H' _ pv => SqL.of (pv.2.1 _ _ hl)) (fun j x σ H3 hx pv => ?_) (fun σ H3 pv => ?_)
      · obtain ⟨⟨o3, o4, o5, o6, rfl⟩, S3, R, hR, lR, nR⟩ := pv
        rw [List.getElem?_map] at hx
        obtain ⟨u, hu, rfl⟩ := Option.map_eq_some_iff.mp hx
        obtain ⟨e, he, hue⟩ := paired_get pL hu
        obtain ⟨a0, a1, b0, b1⟩ := rng e (List.mem_of_getElem? he)
        have hue3 : H3 u = some _ := S3 _ _ hue
        obtain ⟨n1, en1⟩ := Int.eq_ofNat_of_zero_le a0
        obtain ⟨n2, en2⟩ := Int.eq_ofNat_of_zero_le b0
        have m1 : (ms.map V.int)[n1]? = some (V.int ms[n1]) := by rw [List.getElem?_map, List.getElem?_eq_getElem (by omega)]; rfl
        have m2 : (ms.map V.int)[n2]? = some (V.int ms[n2]) := by rw [List.getElem?_map, List.getElem?_eq_getElem (by omega)]; rfl
        have t1 : atI (ms.map V.int) e.1 = some (V.int ms[n1]) := by rw [en1]; exact atI_nat m1
        have t2 : atI (ms.map V.int) e.2 = some (V.int ms[n2]) := by rw [en2]; exact atI_nat m2
        generalize ms[n1] = x1 at t1
        generalize ms[n2] = x2 at t2
        clear m1 m2
        obtain ⟨r1, e1, q1, h1⟩ := hR.row' a0 (by omega)
        have z1 := List.mem_of_getElem? e1
        have c1 := cnt e.1
        have c2 := cnt e.2
        have k1 := rowC_take L j e.1
        have k2 := rowC_take L j e.2
        have hR4 := hR.app (b := x2) e1
        obtain ⟨r2, e2, q2, h2⟩ := hR4.row' b0 (by rw [appR_len]; omega)
        have z2 := List.mem_of_getElem? e2
        have w1 := nR e.1 a0 a1
        have w2 := nR e.2 b0 b1
        have app : ∀ (R : List (List Int)) (a b c : Int), 0 ≤ a → a < R.length → 0 ≤ c → (rowOf (appR R a b) c).length = (rowOf R c).length + if a = c then 1 else 0 := fun R a b c a0 a1 c0 => by
          by_cases z : a = c
          · subst z
            rw [rowOf_app_self (by omega), List.length_append, if_pos rfl]; rfl
          · rw [rowOf_app (by omega), if_neg z]; rfl
        have s1 := app R e.1 x2 e.2 a0 (by omega) b0
        refine rd_gtup (Tup.of hue3) rfl ?_
        walk_at "rd"
        refine rd_ixL hR.at_ q1 ?_
        refine rd_ty h1 ?_
        walk_at "rd"
        refine rd_ixL (S3 _ _ ha) t2 ?_
        walk_at "rd"
        refine rd_app h1 (by rw [List.length_map]; omega) ?_
        walk_at "rd"
        refine rd_ixL hR4.at_ q2 ?_
        refine rd_ty h2 ?_
        walk_at "rd"
        have ha4 : upd H3 r1 (.lst ((rowOf R e.1).map V.int ++ [V.int x2])) a = some (.lst (ms.map V.int)) := by
          rw [upd_ne (fun z => by have := fr r1 z1; rw [← z, ha] at this; cases this)]
          exact S3 _ _ ha
        refine rd_ixL ha4 t1 ?_
        walk_at "rd"
        refine rd_app h2 (by rw [List.length_map]; split at s1 <;> omega) ?_
        walk_at "rd"
        refine ⟨⟨_, _, _, _, rfl⟩, same_put (same_put S3 (fr r1 z1)) (fr r2 z2), _, hR4.app (b := x1) e2, by rw [appR_len, appR_len]; exact lR, fun c c0 c1 => ?_⟩
        have e3 : L.take (j + 1) = L.take j ++ [(e.1, e.2)] := by rw [List.take_succ, he]; rfl
        rw [e3, rowC_snoc, app _ e.2 x1 c b0 (by rw [appR_len]; omega) c0, app _ e.1 x2 c a0 (by omega) c0, nR c c0 c1]
      · obtain ⟨⟨o3, o4, o5, o6, rfl⟩, S3, R, hR, lR, nR⟩ := pv
        have eM : L.take (ps.map V.ref).length = L := List.take_of_length_le (by rw [List.length_map]; omega)
        rw [eM] at nR
        have lRr := paired_len hR.rows
        walk_at "rd"
        refine ⟨a, _, rfl, SqL.of (S3 _ _ ha), fun D hD => ?_⟩
        refine lc_it (walk_enum (K := K) (xs := ms.map V.int)) (fun i H' => Same H3 H' ∧ ∃ U, VwL H' D U ∧ U.length = i)
          ⟨Same.fresh hD, [], ⟨[], upd_same, .nil, by simp⟩, rfl⟩ (fun i H' _ pv => SqL.of (pv.1 _ _ (S3 _ _ ha))) (fun i y H4 H5 hi pv hy => ?_) (fun H4 pv => ?_)
        · obtain ⟨S4, U, hU, lU⟩ := pv
          obtain ⟨t, b, c, rfl, ht0, rfl, hb, hc⟩ := hy
          have hb : some (V.int (i : Nat)) = some b := hb
          cases hb
          have hc : (ms.map V.int)[i]? = some c := hc
          rw [List.length_map] at hi
          rw [List.getElem?_map] at hc
          obtain ⟨m, hm, rfl⟩ := Option.map_eq_some_iff.mp hc
          have S5 : Same H4 (upd H4 t (.tup [.int (i : Nat), .int m])) := Same.fresh ht0
          have ht5 : upd H4 t (.tup [.int (i : Nat), .int m]) t = some (.tup [.int (i : Nat), .int m]) := upd_same
          generalize upd H4 t (.tup [.int (i : Nat), .int m]) = H5 at S5 ht5
          refine rd_gtup (Tup.of ht5) rfl ?_
          walk_at "rd"
          refine ⟨rfl, ?_⟩
          walk_at "rd"
          have S45 := S4.trans S5
          obtain ⟨r, er, qr, hrow⟩ := (hR.same S45).row' (a := ((i : Nat) : Int)) (by omega) (by omega)
          have wr := nR ((i : Nat) : Int) (by omega) (by omega)
          have cr := cnt ((i : Nat) : Int)
          refine rd_ixL (hR.same S45).at_ qr ?_
          walk_at "rd"
          refine rd_sorted hrow (by omega) fun ns' pm srt => ?_
          intro g H6 g0 S6 hg
          walk_at "rd"
          refine rd_tupF hg fun H7 r7 S7 r0 hr7 => ?_
          walk_at "rd"
          intro v H8 v0 S8 hv
          have hw : ViewF H8 v (m, ns') := ⟨r7, Tup.of hv, hr7.same S8⟩
          have S58 := (S6.trans S7).trans S8
          obtain ⟨xs, hxs, lxs, hU'⟩ := (hU.same (S5.trans S58)).snoc hw (by rw [pm.length_eq]; omega)
          refine ⟨xs, hxs, ?_, same_put (S45.trans S58) hD, _, hU', by rw [List.length_append, lU]; rfl⟩
          exact Nat.lt_of_le_of_lt (by omega : xs.length ≤ 1000) (by decide)
        · obtain ⟨S4, U, hU, lU⟩ := pv
          rw [List.length_map] at lU
          walk_at "rd"
          exact hQ H4 D U (S3.trans S4) (S3.free hD) hU lU
set_option hygiene false in
local macro_rules | `(tactic| walk_at "fin_other") => `(tactic| (
  walk_at "rd"
  refine ⟨p, q, k, rfl, d1, by omega, by omega, fun H2 m2 d2 f2 m20 m21 => ?_⟩
  walk_at "rd"
  refine ⟨by omega, by omega, fun D hD => ?_⟩
  obtain ⟨d3, Dp, Dq⟩ := d2.new (o := .lst []) hD
  refine lc_range (lo := 0) (n := n) (fun i H' => Deal H' p q ∧ Fix p q H2 H' ∧ ∃ ns : List Int, H' D = some (.lst (ns.map V.int)) ∧ ns.length = i)
    ⟨d3, Fix.new hD, [], upd_same, rfl⟩ (fun i H' hi pv => ?_) (fun H' pv => ?_)
  · obtain ⟨d4, f4, ns, hns, lns⟩ := pv
    walk_at "rd"
    refine ⟨rfl, ?_⟩
    walk_at "rd"
    refine ⟨p, q, k, rfl, d4, by omega, by omega, fun H5 j d5 f5 j0 jk => ?_⟩
    refine ⟨_, f5 _ _ Dp Dq hns, ?_, d5.off Dp Dq, (f4.trans f5).upd hD, ns ++ [j], ?_, by simp [lns]⟩
    · rw [List.length_map]
      exact Nat.lt_of_le_of_lt (by omega : ns.length ≤ 100) (by decide)
    · rw [upd_same]; simp
  · obtain ⟨d4, f4, ns, hns, lns⟩ := pv
    walk_at "rd"
    refine rd_sorted hns (by omega) fun ns' pm srt => ?_
    intro g H5 g0 S5 hg
    walk_at "rd"
    refine rd_tupF hg fun H6 r S6 r0 hr6 => ?_
    walk_at "rd"
    intro v H7 v0 S7 hv
    exact hQ H7 v (m2, ns') ((d4.same (S5.trans S6)).same S7) (f1.trans (f2.trans (f4.trans (Fix.same ((S5.trans S6).trans S7))))) ⟨r, Tup.of hv, hr6.same S7⟩ (by show ns'.length ≤ 60; rw [pm.length_eq]; omega)))
theorem G__law_other : FnOk P w K mg base CX0 2 T.f__law_other T.d__law_other ["_law_deal", "_law_kinds", "_law_degree"] spOther := by
  refine T.F__law_other.ok sc__law_other (fun vs H Q E h => ?_) fun cdv A outer s H vs Q E hr h => ⟨_, (pss_cons (ps_set (i := 3) sc__law_other.nd rfl (.inl rfl) (pe_ifExp (pt_cmp (pc_isN (pv 2))) (pe_call (G__law_any T) (hr.mono (by decide)) (by rfl) T.m__law_any T.F__law_any.kp T.b__law_any .nil pass0 (by exact (pa_cons (pv 0) (pa_cons pe_int pa_nil)))) (pv 2))) (pss_one (ps_ret (pe_tup (pa_cons (pe_call (G__law_any T) (hr.mono (by decide)) (by rfl) T.m__law_any T.F__law_any.kp T.b__law_any .nil pass0 (by exact (pa_cons (pv 0) (pa_cons (pv 1) pa_nil)))) (pa_cons (pe_tupleFK (K := K) (by rfl) T.n_tuple (pe_callB (cr_sortedK (K := K)) (by rfl) T.n_sorted (by decide +kernel) (by exact (pa_cons (by exact (pe_lc (own := [("_law_turn", 4)]) (by rfl) sc__law_other.nd (pi_range1 (by rfl) T.n_range (by exact (pa_cons (pv 3) pa_nil))) (blkOk_by (own := [("_law_turn", 4)]) (N := N__law_other) (sc := defScope s__law_other) (by decide +kernel)) (fun _ _ _ _ _ => (pg_name (i := 4) sc__law_other.nd rfl (.inl rfl))) (fun _ _ _ _ _ => pts_nil) (fun _ _ _ _ _ => (pe_call (G__law_any T) (hr.mono (by decide)) (by rfl) T.m__law_any T.F__law_any.kp T.b__law_any .nil pass0 (by exact (pa_cons (pv 0) (pa_cons (pv 1) pa_nil))))) )) pa_nil)))) pa_nil)))))), ?_⟩
  · obtain ⟨p, q, k, d, rfl, _⟩ := h
    rfl
  · obtain ⟨p, q, k, d, rfl, hd, d0, k1, k4, hQ⟩ := h
    walk_at "rd"
    rcases hd with rfl | ⟨n, rfl, hn⟩
    · refine iteT' (by decide) ?_
      walk_at "rd"
      refine ⟨p, q, 5, rfl, d0, by decide, by decide, fun H1 m d1 f1 m0 m5 => ?_⟩
      obtain ⟨n, rfl⟩ := Int.eq_ofNat_of_zero_le m0
      have hn : n ≤ 60 := by omega
      walk_at "fin_other"
    · refine iteF' (by simp) ?_
      have d1 := d0
      have f1 := Fix.refl p q H
      walk_at "fin_other"
/-- the tangle under way -/
def TgInv (p q D e l : Addr) (n : Nat) (ms : List Int) (H H' : Hp) (i : Nat) : Prop := Deal H' p q ∧ Fix p q H H' ∧ H' D = some (.lst (ms.map V.int)) ∧ ∃ mt : List Int, H' e = some (.lst (mt.map V.int)) ∧ mt.length = n ∧
  ∃ (ps : List Addr) (L : List (Int × Int)), H' l = some (.lst (ps.map V.ref)) ∧ Paired (PairAt H') ps L ∧ L.length ≤ i ∧ ∀ e ∈ L, 0 ≤ e.1 ∧ e.1 < (n : Nat) ∧ 0 ≤ e.2 ∧ e.2 < (n : Nat)
theorem TgInv.fix {p q D e l : Addr} {n : Nat} {ms : List Int} {H H' H2 : Hp} {i : Nat} (h : TgInv p q D e l n ms H H' i) (d : Deal H2 p q) (f : Fix p q H' H2) (Dp : D ≠ p) (Dq : D ≠ q) (ep : e ≠ p) (eq : e ≠ q) (lp : l ≠ p) (lq : l ≠ q) : TgInv p q D e l n ms H H2 i := by
  obtain ⟨d0, f0, hm, mt, hmt, lmt, ps, L, hps, pL, r⟩ := h
  exact ⟨d, f0.trans f, f _ _ Dp Dq hm, mt, f _ _ ep eq hmt, lmt, ps, L, f _ _ lp lq hps, paired_mono pL (fun a b z => f.keep d0 z fun _ e => by cases e), r⟩
theorem TgInv.skip {p q D e l : Addr} {n : Nat} {ms : List Int} {H H' : Hp} {i : Nat} (h : TgInv p q D e l n ms H H' i) : TgInv p q D e l n ms H H' (i + 1) := by
  obtain ⟨d0, f0, hm, mt, hmt, lmt, ps, L, hps, pL, lL, r⟩ := h
  exact ⟨d0, f0, hm, mt, hmt, lmt, ps, L, hps, pL, Nat.le_succ_of_le lL, r⟩
theorem mt_at {mt : List Int} {i : Int} (h0 : 0 ≤ i) (h1 : i < mt.length) : ∃ x, (mt.map V.int)[i.toNat]? = some (.int x) ∧ atI (mt.map V.int) i = some (.int x) := by
  obtain ⟨n, rfl⟩ := Int.eq_ofNat_of_zero_le h0
  have e : (mt.map V.int)[n]? = some (V.int mt[n]) := by rw [List.getElem?_map, List.getElem?_eq_getElem (by omega)]; rfl
  exact ⟨_, e, atI_nat e⟩
set_option hygiene false in
local macro_rules | `(tactic| walk_at "tg_take") => `(tactic| (
  walk_at "rd"
  refine rd_ty hps ?_
  walk_at "rd"
  refine ⟨_, _, rfl, ?_⟩
  rw [ite_min]
  walk_at "rd"
  refine ⟨_, _, rfl, ?_⟩
  rw [rd_max2]
  walk_at "rd"
  intro u Hc u0 Sc hu
  have hpc := Sc _ _ hps
  have hec := Sc _ _ hmt
  have hmc := Sc _ _ hm
  have pLc := pairs_snoc (pairs_same pL Sc) (show PairAt Hc u (min i1 i2, max i1 i2) from hu)
  have dc := db.same Sc
  have fc := fH.trans (Fix.same Sc)
  have lps := paired_len pL
  walk_at "rd"
  refine rd_app hpc (by rw [List.length_map]; omega) ?_
  walk_at "rd"
  refine rd_augS ?_
  walk_at "rd"
  have hed : upd Hc l (.lst (ps.map V.ref ++ [V.ref u])) e = some (.lst (mt.map V.int)) := by rw [upd_ne el]; exact hec
  refine rd_getL hed i10 g1 ?_
  walk_at "rd"
  refine rd_ip ?_
  refine rd_setL hed i10 (by rw [List.length_map]; omega) ?_
  have es : (mt.map V.int).set i1.toNat (.int (x1 + 1)) = (mt.set i1.toNat (x1 + 1)).map V.int := (List.map_set ..).symm
  rw [es]
  walk_at "rd"
  refine rd_augS ?_
  walk_at "rd"
  obtain ⟨x3, g3, _⟩ := mt_at (mt := mt.set i1.toNat (x1 + 1)) i20 (by rw [List.length_set]; omega)
  refine rd_getL upd_same i20 g3 ?_
  walk_at "rd"
  refine rd_ip ?_
  refine rd_setL upd_same i20 (by rw [List.length_map, List.length_set]; omega) ?_
  have es2 : ((mt.set i1.toNat (x1 + 1)).map V.int).set i2.toNat (.int (x3 + 1)) = ((mt.set i1.toNat (x1 + 1)).set i2.toNat (x3 + 1)).map V.int := (List.map_set ..).symm
  rw [es2]
  walk_at "rd"
  refine ⟨⟨_, _, _, _, rfl⟩, ((dc.off lp lq).off ep eq).off ep eq, ((fc.upd l00).upd e00).upd e00, ?_, _, upd_same, by rw [List.length_set, List.length_set]; exact lmt, ps ++ [u], L ++ [(min i1 i2, max i1 i2)], ?_, ?_, by rw [List.length_append]; exact Nat.add_le_add_right lL 1, fun z hz => ?_⟩
  · rw [upd_ne De, upd_ne De, upd_ne Dl]; exact hmc
  · rw [upd_ne (Ne.symm el), upd_ne (Ne.symm el), upd_same, List.map_append]; rfl
  · exact pairs_upd (pairs_upd (pairs_upd pLc hpc) hed) upd_same
  · rcases List.mem_append.mp hz with y | y
    · exact rng z y
    · rw [List.mem_singleton.mp y]
      show 0 ≤ min i1 i2 ∧ min i1 i2 < (n : Nat) ∧ 0 ≤ max i1 i2 ∧ max i1 i2 < (n : Nat)
      omega))
theorem G__law_tangle : FnOk P w K mg base CX0 2 T.f__law_tangle T.d__law_tangle ["_law_deal", "_law_kinds", "_law_many"] spTangle := by
  refine T.F__law_tangle.ok sc__law_tangle (fun vs H Q E h => ?_) fun cdv A outer s H vs Q E hr h => ⟨_, (pss_cons (ps_par3 (i := 3) (j := 4) (l := 5) (by rfl) sc__law_tangle.nd rfl rfl rfl (by decide) (by decide) (by decide) rfl rfl rfl (pa_cons (by exact (pe_lc (own := [("_law_site", 9)]) (by rfl) sc__law_tangle.nd (pi_range1 (by rfl) T.n_range (by exact (pa_cons (pv 2) pa_nil))) (blkOk_by (own := [("_law_site", 9)]) (N := N__law_tangle) (sc := defScope s__law_tangle) (by decide +kernel)) (fun _ _ _ _ _ => (pg_name (i := 9) sc__law_tangle.nd rfl (.inl rfl))) (fun _ _ _ _ _ => pts_nil) (fun _ _ _ _ _ => (pe_call (G__law_any T) (hr.mono (by decide)) (by rfl) T.m__law_any T.F__law_any.kp T.b__law_any .nil pass0 (by exact (pa_cons (pv 0) (pa_cons (pv 1) pa_nil))))) )) (pa_cons (pe_op op_rep (pe_lst (pa_cons pe_int pa_nil)) (pv 2)) (pa_cons (pe_lst pa_nil) pa_nil))) (by rfl)) (pss_cons (ps_for PassesOwn.never rfl (pi_range1 (by rfl) T.n_range (by exact (pa_cons (pe_op op_add pe_int (pe_call (G__law_any T) (hr.mono (by decide)) (by rfl) T.m__law_any T.F__law_any.kp T.b__law_any .nil pass0 (by exact (pa_cons (pv 0) (pa_cons (pe_op op_mul pe_int (pv 2)) pa_nil))))) pa_nil))) (pg_name (i := 6) sc__law_tangle.nd rfl (.inl rfl)) (pss_cons (ps_par (i := 7) (j := 8) (by rfl) sc__law_tangle.nd rfl rfl (by decide) rfl rfl (pa_cons (pe_call (G__law_any T) (hr.mono (by decide)) (by rfl) T.m__law_any T.F__law_any.kp T.b__law_any .nil pass0 (by exact (pa_cons (pv 0) (pa_cons (pv 2) pa_nil)))) (pa_cons (pe_call (G__law_any T) (hr.mono (by decide)) (by rfl) T.m__law_any T.F__law_any.kp T.b__law_any .nil pass0 (by exact (pa_cons (pv 0) (pa_cons (pv 2) pa_nil)))) pa_nil)) (by rfl)) (pss_one (ps_if (PW.pt (pw_and (pt_cmpR op_lt (pe_ix (ix_listK (K := K)) (pv 4) (pv 7) (fun _ _ => rfl)) pe_int (nomark _)) (pw_and (pt_cmpR op_lt (pe_ix (ix_listK (K := K)) (pv 4) (pv 8) (fun _ _ => rfl)) pe_int (nomark _)) (pw_and1 (PW.pt (pw_or (pt_cmpR op_ne (pv 7) (pv 8) (nomark _)) (pw_or1 (pt_cmpR op_lt (pe_ix (ix_listK (K := K)) (pv 4) (pv 7) (fun _ _ => rfl)) pe_int (nomark _))))))))) (pss_cons (ps_expr (pe_bmK (K := K) PySem.F.slot_list_append PySem.F.type_list_append mt_append (pv 5) (by exact (pa_cons (pe_tup (pa_cons (pe_callB (call_min2 rfl) (by rfl) T.n_min (by decide +kernel) (by exact (pa_cons (pv 7) (pa_cons (pv 8) pa_nil)))) (pa_cons (pe_callB (call_max2 rfl) (by rfl) T.n_max (by decide +kernel) (by exact (pa_cons (pv 7) (pa_cons (pv 8) pa_nil)))) pa_nil))) pa_nil)))) (pss_cons (ps_augS (pv 4) (pv 7) (get_listK (K := K)) pe_int ip_add set_list) (pss_one (ps_augS (pv 4) (pv 8) (get_listK (K := K)) pe_int ip_add set_list)))) pss_nil)))) (pss_one (ps_ret (pe_tup (pa_cons (pv 3) (pa_cons (pv 5) pa_nil))))))), ?_⟩
  · obtain ⟨p, q, k, n, rfl, _⟩ := h
    rfl
  · obtain ⟨p, q, k, n, rfl, d0, k1, k4, n1, n6, hQ⟩ := h
    walk_at "rd"
    refine ⟨by omega, by omega, fun D hD => ?_⟩
    obtain ⟨d3, Dp, Dq⟩ := d0.new (o := .lst []) hD
    refine lc_range (lo := 0) (n := n) (fun i H' => Deal H' p q ∧ Fix p q H H' ∧ ∃ ns : List Int, H' D = some (.lst (ns.map V.int)) ∧ ns.length = i)
      ⟨d3, Fix.new hD, [], upd_same, rfl⟩ (fun i H' hi pv => ?_) (fun H' pv => ?_)
    · obtain ⟨d4, f4, ns, hns, lns⟩ := pv
      walk_at "rd"
      refine ⟨rfl, ?_⟩
      walk_at "rd"
      refine ⟨p, q, k, rfl, d4, by omega, by omega, fun H5 j d5 f5 j0 jk => ?_⟩
      refine ⟨_, f5 _ _ Dp Dq hns, ?_, d5.off Dp Dq, (f4.trans f5).upd hD, ns ++ [j], ?_, by simp [lns]⟩
      · rw [List.length_map]
        exact Nat.lt_of_le_of_lt (by omega : ns.length ≤ 100) (by decide)
      · rw [upd_same]; simp
    · obtain ⟨d4, f4, ms, hms, lms⟩ := pv
      walk_at "rd"
      intro z H5 z0 S5 hz
      walk_at "rd"
      refine rd_rep1 hz (by omega) ?_
      intro e H6 e0 S6 he
      walk_at "rd"
      intro l H7 l0 S7 hl
      walk_at "rd"
      have d6 := (d4.same S5).same S6
      have d7 := d6.same S7
      have f7 : Fix p q H H7 := f4.trans (Fix.same ((S5.trans S6).trans S7))
      obtain ⟨ep, eq⟩ := (d4.same S5).nes e0
      obtain ⟨lp, lq⟩ := d6.nes l0
      have e00 := f4.free d4 (S5.free e0)
      have l00 := f4.free d4 (S5.free (S6.free l0))
      have D00 : H D = none := hD
      have hms7 := ((S5.trans S6).trans S7) _ _ hms
      have he7 := S7 _ _ he
      have Dl : D ≠ l := fun y => by rw [y, (S5.trans S6).free l0] at hms; cases hms
      have De : D ≠ e := fun y => by rw [y, S5.free e0] at hms; cases hms
      have el : e ≠ l := fun y => by rw [y, l0] at he; cases he
      refine rd_rI (.inl ⟨by omega, by omega⟩) ?_
      walk_at "rd"
      refine ⟨p, q, _, rfl, d7, by omega, by omega, fun H8 m d8 f8 m0 m1 => ?_⟩
      walk_at "rd"
      refine ⟨by omega, by omega, ?_⟩
      have hms8 := f8 _ _ Dp Dq hms7
      have he8 := f8 _ _ ep eq he7
      have hl8 := f8 _ _ lp lq hl
      clear hms7 he7 hl he hz hms
      refine for_range (lo := 0) (n := (2 + m).toNat) (fun i σ H' => (∃ o6 o7 o8 o9, σ = [some (.ref p), some (.int k), some (.int (n : Nat)), some (.ref D), some (.ref e), some (.ref l), o6, o7, o8, o9]) ∧ TgInv p q D e l n ms H H' i)
        ⟨⟨_, _, _, _, rfl⟩, d8, f7.trans f8, hms8, List.replicate n 0, by rw [List.map_replicate]; exact he8, List.length_replicate, [], [], hl8, .nil, Nat.le_refl _, by simp⟩ (fun i σ H' hi pv => ?_) (fun σ H' pv => ?_)
      · obtain ⟨⟨o6, o7, o8, o9, rfl⟩, iv⟩ := pv
        have hi : i ≤ 19 := by omega
        walk_at "rd"
        refine ⟨p, q, _, rfl, iv.1, by omega, by omega, fun Ha i1 da fa i10 i11 => ?_⟩
        have iv1 := iv.fix da fa Dp Dq ep eq lp lq
        walk_at "rd"
        refine ⟨p, q, _, rfl, da, by omega, by omega, fun Hb i2 db fb i20 i21 => ?_⟩
        have iv2 := iv1.fix db fb Dp Dq ep eq lp lq
        clear iv iv1 da fa
        obtain ⟨_, fH, hm, mt, hmt, lmt, ps, L, hps, pL, lL, rng⟩ := id iv2
        obtain ⟨x1, g1, t1⟩ := mt_at (mt := mt) i10 (by omega)
        obtain ⟨x2, g2, t2⟩ := mt_at (mt := mt) i20 (by omega)
        walk_at "rd"
        refine rd_ixL hmt t1 ?_
        walk_at "rd"
        by_cases c1 : x1 < 4
        · refine iteT' (decide_eq_true c1) ?_
          walk_at "rd"
          refine rd_ixL hmt t2 ?_
          walk_at "rd"
          by_cases c2 : x2 < 4
          · refine iteT' (decide_eq_true c2) ?_
            walk_at "rd"
            by_cases c3 : i1 = i2
            · refine iteF' (by simp [c3]) ?_
              walk_at "rd"
              refine rd_ixL hmt t1 ?_
              walk_at "rd"
              by_cases c4 : x1 < 3
              · refine iteT' (decide_eq_true c4) ?_
                walk_at "tg_take"
              · refine iteF' (decide_eq_false c4) ?_
                walk_at "rd"
                exact ⟨⟨_, _, _, _, rfl⟩, iv2.skip⟩
            · refine iteT' (by simp [c3]) ?_
              walk_at "tg_take"
          · refine iteF' (decide_eq_false c2) ?_
            walk_at "rd"
            exact ⟨⟨_, _, _, _, rfl⟩, iv2.skip⟩
        · refine iteF' (decide_eq_false c1) ?_
          walk_at "rd"
          exact ⟨⟨_, _, _, _, rfl⟩, iv2.skip⟩
      · obtain ⟨⟨o6, o7, o8, o9, rfl⟩, dH, fH, hm, mt, hmt, lmt, ps, L, hps, pL, lL, rng⟩ := pv
        walk_at "rd"
        intro t H9 t0 S9 ht
        refine hQ H9 t D l ms ps L (dH.same S9) (fH.trans (Fix.same S9)) (Tup.of ht) (S9 _ _ hm) lms (S9 _ _ hps) (pairs_same pL S9) rng fun c => ?_
        have := rowC_len L c
        omega
end
end K10

namespace K10
open PySem PySem.Spec PyProof.Rows L2 KX
local macro_rules | `(tactic| walk_at "rd1") => `(tactic| first
  | with_reducible refine rd_seq ?_
  | with_reducible refine rd_for ?_
  | with_reducible refine rd_lc ?_
  | with_reducible refine rd_asg ?_
  | ((with_reducible refine' rd_var ?rdv ?_); (case rdv => exact rfl))
  | with_reducible refine rd_c ?_
  | with_reducible refine rd_op ?_
  | with_reducible refine rd_un ?_
  | with_reducible refine rd_cons ?_
  | with_reducible refine rd_nil ?_
  | with_reducible refine rd_call ?_
  | with_reducible refine rd_cb ?_
  | with_reducible refine rd_tB ?_
  | with_reducible refine rd_test ?_
  | with_reducible refine rd_bl ?_
  | with_reducible refine rd_rI0 ?_
  | with_reducible refine rd_eqI ?_
  | with_reducible refine rd_neI ?_
  | with_reducible refine rd_rU ?_
  | with_reducible refine rd_name ?_
  | with_reducible refine rd_ifs ?_
  | with_reducible refine rd_and ?_
  | with_reducible refine rd_or ?_
  | with_reducible refine rd_not ?_
  | with_reducible refine rd_yes ?_
  | with_reducible refine rd_andV ?_
  | with_reducible refine rd_orV ?_
  | with_reducible refine rd_notV ?_
  | with_reducible refine rd_if ?_
  | with_reducible refine rd_isN ?_
  | with_reducible refine rd_iT ?_
  | with_reducible refine rd_iF ?_
  | with_reducible refine rd_ret ?_
  | with_reducible refine rd_retN ?_
  | with_reducible refine rd_drop ?_
  | with_reducible refine rd_next ?_
  | with_reducible refine rd_cont ?_
  | with_reducible refine rd_brk ?_
  | with_reducible refine rd_nx ?_
  | with_reducible refine rd_rt ?_
  | with_reducible refine rd_ct ?_
  | with_reducible refine rd_bk ?_
  | with_reducible refine rd_par ?_
  | with_reducible refine rd_par3 ?_
  | with_reducible refine rd_par2 ?_
  | with_reducible refine rd_par33 ?_
  | with_reducible refine rd_gcons ?_
  | with_reducible refine rd_gnil ?_
  | with_reducible refine rd_sub ?_
  | with_reducible refine rd_tup ?_
  | with_reducible refine rd_lst ?_
  | ((with_reducible refine rd_tupT ?hl ?_); (case hl => exact Nat.le_of_ble_eq_true rfl))
  | ((with_reducible refine rd_lstT ?hl ?_); (case hl => exact Nat.le_of_ble_eq_true rfl))
  | with_reducible refine rd_bm ?_
  | with_reducible refine rd_bm0 ?_
  | with_reducible refine rd_sl ?_
  | with_reducible refine rd_noP ?_
  | with_reducible refine rd_part ?_
  | with_reducible refine rd_int ?_
  | with_reducible refine rd_int1 ?_
  | with_reducible refine rd_fld ?_
  | with_reducible refine rd_then ?_
  | with_reducible refine rd_raise ?_
  | with_reducible refine rd_one ?_
  | with_reducible refine rd_sfld ?_
  | with_reducible refine rd_ilist ?_
  | with_reducible refine rd_itup ?_
  | with_reducible refine rd_rng1 ?_
  | with_reducible refine rd_enum ?_
  | with_reducible refine rd_enumT ?_)
local macro_rules | `(tactic| walk_at "rd") => `(tactic| repeat (walk_at "rd1"))
theorem paired_set {α β : Type} {F : α → β → Prop} {a : α} {b : β} (f : F a b) : ∀ {l : List α} {m : List β}, Paired F l m → ∀ i, Paired F (l.set i a) (m.set i b)
  | _, _, .nil, _ => .nil
  | _, _, .cons x t, 0 => .cons f t
  | _, _, .cons x t, i + 1 => .cons x (paired_set f t i)
theorem VwL.put {H : Hp} {D v : Addr} {U : PlanI} {w : Int × List Int} (h : VwL H D U) (hv : ViewF H v w) (l : w.2.length ≤ 60) (i : Nat) : ∃ xs, H D = some (.lst xs) ∧ xs.length = U.length ∧ VwL (upd H D (.lst (xs.set i (.ref v)))) D (U.set i w) := by
  obtain ⟨vs, a, b, c⟩ := h
  refine ⟨_, a, by rw [List.length_map, paired_len b], vs.set i v, by rw [upd_same, List.map_set], ?_, fun x hx => ?_⟩
  · exact paired_set (viewF_upd hv a) (paired_mono b fun _ _ z => viewF_upd z a) i
  · rcases List.mem_or_eq_of_mem_set hx with z | z
    · exact c x z
    · rw [z]; exact l
theorem VwL.get {H : Hp} {D : Addr} {U : PlanI} (h : VwL H D U) {i : Int} (h0 : 0 ≤ i) (h1 : i < U.length) : ∃ (xs : List V) (v : Addr) (w : Int × List Int) (r : Addr), H D = some (.lst xs) ∧ atI xs i = some (.ref v) ∧ Tup H v [.int w.1, .ref r] ∧ TupF H r (w.2.map V.int) ∧ w.2.length ≤ 60 := by
  obtain ⟨vs, a, b, c⟩ := h
  have l := paired_len b
  obtain ⟨n, rfl⟩ := Int.eq_ofNat_of_zero_le h0
  have gv : vs[n]? = some vs[n] := List.getElem?_eq_getElem (by omega)
  obtain ⟨w, hw, r, h1, h2⟩ := paired_get b gv
  exact ⟨_, vs[n], w, r, a, atI_nat (by rw [List.getElem?_map, gv]; rfl), h1, h2, c w (List.mem_of_getElem? hw)⟩
def spPlan : L2.Sp := fun vs H Q _ => ∃ (p q : Addr), vs = [.ref p, .int 6] ∧ Deal H p q ∧ ∀ H' t U, Deal H' p q → Fix p q H H' → H t = none → t ≠ p → t ≠ q → VwL H' t U → 1 ≤ U.length → U.length ≤ 6 → Q (.ref t) H'
set_option hygiene false in
local macro_rules | `(tactic| walk_at "pl_cut") => `(tactic| (
  walk_at "rd"
  obtain ⟨vs, hvs, pvs, lvs⟩ := id hU
  have lv := paired_len pvs
  refine rd_len hvs ?_
  rw [List.length_map, lv]
  walk_at "rd"
  refine ⟨p, q, _, rfl, dU, by omega, by omega, fun Hc c dc fc c0 c1 => ?_⟩
  have hvs1 := fc _ _ tp tq hvs
  have pvs1 : Paired (ViewF Hc) vs U := paired_mono pvs fun _ _ z => viewF_fix fc dU z
  walk_at "rd"
  refine rd_slL hvs1 ?_
  intro a1 Hd a10 Sd ha1
  rw [cut_drop _ c0 (by rw [List.length_map]; omega)] at ha1
  walk_at "rd"
  refine rd_slL (Sd _ _ hvs1) ?_
  intro a2 He a20 Se ha2
  rw [cut_take _ c0 (by rw [List.length_map]; omega)] at ha2
  refine rd_cat (Se _ _ ha1) ha2 (by rw [List.length_drop, List.length_take, List.length_map]; omega) ?_
  intro r Hf r0 Sf hr3
  have Sg := (Sd.trans Se).trans Sf
  walk_at "rd"
  refine hQ Hf r (U.drop c.toNat ++ U.take c.toNat) (dc.same Sg) (fU.trans (fc.trans (Fix.same Sg))) ((fU.trans fc).free dc (Sd.free (Se.free r0))) (dc.nes (Sd.free (Se.free r0))).1 (dc.nes (Sd.free (Se.free r0))).2 ⟨vs.drop c.toNat ++ vs.take c.toNat, ?_, ?_, fun v hv => ?_⟩ ?_ ?_
  · rw [hr3, List.map_append, List.map_drop, List.map_take]
  · exact paired_append (paired_drop (views_same pvs1 Sg) _) (paired_take (views_same pvs1 Sg) _)
  · rcases List.mem_append.mp hv with z | z
    · exact lvs v (List.mem_of_mem_drop z)
    · exact lvs v (List.mem_of_mem_take z)
  · rw [List.length_append, List.length_drop, List.length_take]; omega
  · rw [List.length_append, List.length_drop, List.length_take]; omega))
set_option hygiene false in
local macro_rules | `(tactic| walk_at "pl_put") => `(tactic| (
  walk_at "rd"
  obtain ⟨vs, hvs, pvs, lvs⟩ := id hU
  have lv := paired_len pvs
  refine rd_len hvs ?_
  rw [List.length_map, lv]
  walk_at "rd"
  refine ⟨p, q, _, rfl, dU, by omega, by omega, fun Hx at_ dx fx at0 at1 => ?_⟩
  have hU1 := hU.fix fx dU tp tq
  obtain ⟨xs0, v0, w0, r0, hxs0, gx, hr1, hr2, lw0⟩ := hU1.get at0 at1
  walk_at "rd"
  refine rd_ixL hxs0 gx ?_
  walk_at "rd"
  refine rd_ixT hr1 rfl ?_
  walk_at "rd"
  refine rd_lenTup hr2.tup ?_
  rw [List.length_map]
  walk_at "rd"
  intro o Hy o0 Sy ho
  walk_at "rd"
  have dy := dx.same Sy
  obtain ⟨op, oq⟩ := dx.nes o0
  refine ⟨p, q, o, _, rfl, dy, op, oq, ho, by simp, by simp, fun Hz d hd dz fz => ?_⟩
  have hd : d = .non ∨ ∃ n : Nat, d = .int n ∧ n ≤ 60 := by
    simp only [List.mem_cons, List.not_mem_nil, or_false] at hd
    rcases hd with rfl | rfl
    · exact .inr ⟨_, rfl, lw0⟩
    · exact .inl rfl
  walk_at "rd"
  refine ⟨p, q, k, d, rfl, hd, dz, k1, k4, fun Hw v w dw fw hv lw => ?_⟩
  walk_at "rd"
  have hUw := ((hU1.same Sy).fix fz dy tp tq).fix fw dz tp tq
  obtain ⟨xs, hxs, lxs, hU2⟩ := hUw.put hv lw at_.toNat
  refine rd_setL hxs at0 (by omega) ?_
  have dU2 : Deal (upd Hw t (.lst (xs.set at_.toNat (.ref v)))) p q := dw.off tp tq
  have fU2 : Fix p q H (upd Hw t (.lst (xs.set at_.toNat (.ref v)))) := (fU.trans (fx.trans ((Fix.same Sy).trans (fz.trans fw)))).upd t0
  have ll2 : 1 ≤ (U.set at_.toNat w).length ∧ (U.set at_.toNat w).length ≤ 6 := by rw [List.length_set]; exact ⟨lU1, lU6⟩
  generalize upd Hw t (.lst (xs.set at_.toNat (.ref v))) = Hn at hU2 dU2 fU2
  generalize U.set at_.toNat w = Un at hU2 ll2
  clear hU dU fU lU1 lU6 hvs pvs lvs lv hU1 hxs0 gx hr1 hr2 hUw hxs lxs at1
  obtain ⟨lU1, lU6⟩ := ll2
  have hU := hU2
  have dU := dU2
  have fU := fU2
  generalize Un = U at *
  walk_at "pl_cut"))
section
variable {P : Program} {w : World} {K : PySem.W.Frag} {mg : Str → Option Value} {base : Heap} (T : TX K mg)
theorem G__law_plan : FnOk P w K mg base CX0 4 T.f__law_plan T.d__law_plan ["_law_deal", "_law_most"] spPlan := by
  refine T.F__law_plan.ok sc__law_plan (fun vs H Q E h => ?_) fun cdv A outer s H vs Q E hr h => ⟨_, (pss_cons (ps_asg (pe_tup (pa_cons (pe_call (G__law_of T) (hr.mono (by decide)) (by rfl) T.m__law_of T.F__law_of.kp T.b__law_of .nil pass0 (by exact (pa_cons (pv 0) (pa_cons (pe_lst (pa_cons pe_int (pa_cons pe_int (pa_cons pe_int (pa_cons pe_int (pa_cons pe_int pa_nil)))))) pa_nil)))) (pa_cons (pe_call (G__law_any T) (hr.mono (by decide)) (by rfl) T.m__law_any T.F__law_any.kp T.b__law_any .nil pass0 (by exact (pa_cons (pv 0) (pa_cons pe_int pa_nil)))) pa_nil))) (pg_tupK (K := K) (n := 2) (by rfl) (pgs_cons (pg_name (i := 2) sc__law_plan.nd rfl (.inr rfl)) (pgs_cons (pg_name (i := 3) sc__law_plan.nd rfl (.inl rfl)) pgs_nil)))) (pss_cons (ps_if (pt_cmpR op_eq (pv 3) pe_int (nomark _)) (pss_one (ps_ret (by exact (pe_lc (own := [("_law_turn", 10)]) (by rfl) sc__law_plan.nd (pi_range1 (by rfl) T.n_range (by exact (pa_cons (pe_op op_add pe_int (pe_call (G__law_any T) (hr.mono (by decide)) (by rfl) T.m__law_any T.F__law_any.kp T.b__law_any .nil pass0 (by exact (pa_cons (pv 0) (pa_cons (pv 1) pa_nil))))) pa_nil))) (blkOk_by (own := [("_law_turn", 10)]) (N := N__law_plan) (sc := defScope s__law_plan) (by decide +kernel)) (fun _ _ _ _ _ => (pg_name (i := 10) sc__law_plan.nd rfl (.inl rfl))) (fun _ _ _ _ _ => pts_nil) (fun _ _ _ _ _ => (pe_call (G__law_other T) (hr.mono (by decide)) (by rfl) T.m__law_other T.F__law_other.kp T.b__law_other .nil pass0 (by exact (pa_cons (pv 0) (pa_cons (pv 2) (pa_cons pe_non pa_nil)))))) )))) pss_nil) (pss_cons (ps_set (i := 4) sc__law_plan.nd rfl (.inl rfl) (pe_op op_add pe_int (pe_call (G__law_any T) (hr.mono (by decide)) (by rfl) T.m__law_any T.F__law_any.kp T.b__law_any .nil pass0 (by exact (pa_cons (pv 0) (pa_cons (pv 1) pa_nil)))))) (pss_cons (ps_asg (pe_ifExp (pt_cmpR op_gt (pv 3) pe_int (nomark _)) (pe_call (G__law_tangle T) (hr.mono (by decide)) (by rfl) T.m__law_tangle T.F__law_tangle.kp T.b__law_tangle .nil pass0 (by exact (pa_cons (pv 0) (pa_cons (pv 2) (pa_cons (pv 4) pa_nil))))) (pe_call (G__law_network T) (hr.mono (by decide)) (by rfl) T.m__law_network T.F__law_network.kp T.b__law_network .nil pass0 (by exact (pa_cons (pv 0) (pa_cons (pv 2) (pa_cons (pv 4) pa_nil)))))) (pg_tupK (K := K) (n := 2) (by rfl) (pgs_cons (pg_name (i := 5) sc__law_plan.nd rfl (.inl rfl)) (pgs_cons (pg_name (i := 6) sc__law_plan.nd rfl (.inl rfl)) pgs_nil)))) (pss_cons (ps_set (i := 7) sc__law_plan.nd rfl (.inl rfl) (pe_call (G__law_sight T) (hr.mono (by decide)) (by rfl) T.m__law_sight T.F__law_sight.kp T.b__law_sight .nil pass0 (by exact (pa_cons (pv 5) (pa_cons (pv 6) pa_nil))))) (pss_cons (ps_if (PW.pt (pw_or (pt_cmpR op_eq (pv 3) pe_int (nomark _)) (pw_or1 (pt_cmpR op_eq (pv 3) pe_int (nomark _))))) (pss_cons (ps_set (i := 8) sc__law_plan.nd rfl (.inl rfl) (pe_call (G__law_any T) (hr.mono (by decide)) (by rfl) T.m__law_any T.F__law_any.kp T.b__law_any .nil pass0 (by exact (pa_cons (pv 0) (pa_cons (pe_callB (cr_lenK (K := K)) (by rfl) T.n_len (by decide +kernel) (by exact (pa_cons (pv 7) pa_nil))) pa_nil))))) (pss_one (ps_asg (pe_call (G__law_other T) (hr.mono (by decide)) (by rfl) T.m__law_other T.F__law_other.kp T.b__law_other .nil pass0 (by exact (pa_cons (pv 0) (pa_cons (pv 2) (pa_cons (pe_call (G__law_of T) (hr.mono (by decide)) (by rfl) T.m__law_of T.F__law_of.kp T.b__law_of .nil pass0 (by exact (pa_cons (pv 0) (pa_cons (pe_lst (pa_cons (pe_callB (cr_lenK (K := K)) (by rfl) T.n_len (by decide +kernel) (by exact (pa_cons (pe_ix (ix_tupK (K := K)) (pe_ix (ix_listK (K := K)) (pv 7) (pv 8) (fun _ _ => rfl)) pe_int (fun _ _ => rfl)) pa_nil))) (pa_cons pe_non pa_nil))) pa_nil)))) pa_nil))))) (pg_sub (pv 7) (pv 8) set_list)))) pss_nil) (pss_cons (ps_set (i := 9) sc__law_plan.nd rfl (.inl rfl) (pe_call (G__law_any T) (hr.mono (by decide)) (by rfl) T.m__law_any T.F__law_any.kp T.b__law_any .nil pass0 (by exact (pa_cons (pv 0) (pa_cons (pe_callB (cr_lenK (K := K)) (by rfl) T.n_len (by decide +kernel) (by exact (pa_cons (pv 7) pa_nil))) pa_nil))))) (pss_one (ps_ret (pe_op op_cat (pe_slice (sl_listK (K := K)) (pv 7) (po_some (pv 9)) po_none) (pe_slice (sl_listK (K := K)) (pv 7) po_none (po_some (pv 9))))))))))))), ?_⟩
  · obtain ⟨p, q, rfl, _⟩ := h
    rfl
  · obtain ⟨p, q, rfl, d0, hQ⟩ := h
    walk_at "rd"
    intro o H1 o0 S1 ho
    walk_at "rd"
    have d1 := d0.same S1
    obtain ⟨op, oq⟩ := d0.nes o0
    refine ⟨p, q, o, _, rfl, d1, op, oq, ho, by decide, by decide, fun H2 kx hk d2 f2 => ?_⟩
    obtain ⟨k, rfl, k1, k4⟩ : ∃ k : Int, kx = .int k ∧ 1 ≤ k ∧ k ≤ 4 := by
      simp only [List.mem_cons, List.not_mem_nil, or_false] at hk
      rcases hk with rfl | rfl | rfl | rfl | rfl
      · exact ⟨_, rfl, by decide, by decide⟩
      · exact ⟨_, rfl, by decide, by decide⟩
      · exact ⟨_, rfl, by decide, by decide⟩
      · exact ⟨_, rfl, by decide, by decide⟩
      · exact ⟨_, rfl, by decide, by decide⟩
    walk_at "rd"
    refine ⟨p, q, 10, rfl, d2, by decide, by decide, fun H3 form d3 f3 fo0 fo1 => ?_⟩
    walk_at "rd"
    intro t H4 t0 S4 ht
    refine rd_gtup (Tup.of ht) rfl ?_
    walk_at "rd"
    have d4 := d3.same S4
    have f4 : Fix p q H H4 := (Fix.same S1).trans (f2.trans (f3.trans (Fix.same S4)))
    clear d1 d2 d3 f2 f3 ht ho
    by_cases c9 : form = 9
    · refine iteT' (decide_eq_true c9) ?_
      walk_at "rd"
      refine ⟨p, q, 6, rfl, d4, by decide, by decide, fun H5 m d5 f5 m0 m6 => ?_⟩
      walk_at "rd"
      refine ⟨by omega, by omega, fun D hD => ?_⟩
      obtain ⟨d6, Dp, Dq⟩ := d5.new (o := .lst []) hD
      have D0 : H D = none := (f4.trans f5).free d5 hD
      refine lc_range (lo := 0) (n := (1 + m).toNat) (fun i H' => Deal H' p q ∧ Fix p q H5 H' ∧ ∃ U, VwL H' D U ∧ U.length = i)
        ⟨d6, Fix.new hD, [], ⟨[], upd_same, .nil, by simp⟩, rfl⟩ (fun i H' hi pv => ?_) (fun H' pv => ?_)
      · obtain ⟨d7, f7, U, hU, lU⟩ := pv
        walk_at "rd"
        refine ⟨rfl, ?_⟩
        walk_at "rd"
        refine ⟨p, q, k, _, rfl, .inl rfl, d7, k1, k4, fun H8 v w d8 f8 hv lw => ?_⟩
        obtain ⟨xs, hxs, lxs, hU2⟩ := (hU.fix f8 d7 Dp Dq).snoc hv lw
        refine ⟨xs, hxs, Nat.lt_of_le_of_lt (by omega : xs.length ≤ 100) (by decide), d8.off Dp Dq, (f7.trans f8).upd hD, _, hU2, by rw [List.length_append, lU]; rfl⟩
      · obtain ⟨d7, f7, U, hU, lU⟩ := pv
        walk_at "rd"
        exact hQ H' D U d7 (f4.trans (f5.trans f7)) D0 Dp Dq hU (by omega) (by omega)
    · refine iteF' (decide_eq_false c9) ?_
      walk_at "rd"
      refine ⟨p, q, 6, rfl, d4, by decide, by decide, fun H5 m0' d5 f5 m0 m6 => ?_⟩
      obtain ⟨m, rfl⟩ := Int.eq_ofNat_of_zero_le m0
      have en : (1 : Int) + (m : Nat) = ((1 + m : Nat) : Int) := by omega
      refine rd_rI0 ?_
      rw [en]
      walk_at "rd"
      by_cases c3 : 3 < form
      · refine iteT' (decide_eq_true c3) ?_
        walk_at "rd"
        refine ⟨p, q, k, 1 + m, rfl, d5, k1, k4, by omega, by omega, fun H6 t6 a l ms ps L d6 f6 ht6 ha lms hl pL rng cnt => ?_⟩
        refine rd_gtup ht6 rfl ?_
        walk_at "rd"
        refine ⟨a, l, ms, ps, L, rfl, ha, hl, pL, by omega, by rw [lms]; exact rng, cnt, fun H7 t U S7 t70 hU lU => ?_⟩
        have dU := d6.same S7
        have fU : Fix p q H H7 := f4.trans (f5.trans (f6.trans (Fix.same S7)))
        have t0 : H t = none := (f4.trans (f5.trans f6)).free d6 t70
        obtain ⟨tp, tq⟩ := d6.nes t70
        have lU1 : 1 ≤ U.length := by omega
        have lU6 : U.length ≤ 6 := by omega
        clear ha hl pL rng cnt lms ht6 f4 f5 f6 d4 d5 d6 lU
        walk_at "rd"
        by_cases c8 : form = 8
        · refine iteF' (decide_eq_false (by omega)) ?_
          walk_at "rd"
          refine iteT' (decide_eq_true c8) ?_
          walk_at "pl_put"
        · refine iteF' (decide_eq_false (by omega)) ?_
          walk_at "rd"
          refine iteF' (decide_eq_false c8) ?_
          walk_at "pl_cut"
      · refine iteF' (decide_eq_false c3) ?_
        walk_at "rd"
        refine ⟨p, q, k, 1 + m, rfl, d5, k1, k4, by omega, by omega, fun H6 t6 a l ms ps L d6 f6 ht6 a0 l0 al ap aq lp lq ha lms bms hl pL g sr => ?_⟩
        refine rd_gtup (Tup.of ht6) rfl ?_
        walk_at "rd"
        refine ⟨a, l, ms, ps, L, rfl, ha, hl, pL, by omega, fun e he => by have := g.rng e he; omega, fun c => by have := rowC_good g c; omega, fun H7 t U S7 t70 hU lU => ?_⟩
        have dU := d6.same S7
        have fU : Fix p q H H7 := f4.trans (f5.trans (f6.trans (Fix.same S7)))
        have t0 : H t = none := (f4.trans (f5.trans f6)).free d6 t70
        obtain ⟨tp, tq⟩ := d6.nes t70
        have lU1 : 1 ≤ U.length := by omega
        have lU6 : U.length ≤ 6 := by omega
        clear ha hl pL g sr lms ht6 f4 f5 f6 d4 d5 d6 lU bms al ap aq lp lq a0 l0
        walk_at "rd"
        by_cases c8 : form = 3
        · refine iteT' (decide_eq_true c8) ?_
          walk_at "pl_put"
        · refine iteF' (decide_eq_false c8) ?_
          walk_at "rd"
          refine iteF' (decide_eq_false (by omega)) ?_
          walk_at "pl_cut"
end
end K10

namespace K10
open PySem PySem.Spec PyProof.Rows L2 KX
local macro_rules | `(tactic| walk_at "rd1") => `(tactic| first
  | with_reducible refine rd_seq ?_
  | with_reducible refine rd_for ?_
  | with_reducible refine rd_lc ?_
  | with_reducible refine rd_asg ?_
  | ((with_reducible refine' rd_var ?rdv ?_); (case rdv => exact rfl))
  | with_reducible refine rd_c ?_
  | with_reducible refine rd_op ?_
  | with_reducible refine rd_un ?_
  | with_reducible refine rd_cons ?_
  | with_reducible refine rd_nil ?_
  | with_reducible refine rd_call ?_
  | with_reducible refine rd_cb ?_
  | with_reducible refine rd_tB ?_
  | with_reducible refine rd_test ?_
  | with_reducible refine rd_bl ?_
  | with_reducible refine rd_rI0 ?_
  | with_reducible refine rd_eqI ?_
  | with_reducible refine rd_neI ?_
  | with_reducible refine rd_rU ?_
  | with_reducible refine rd_name ?_
  | with_reducible refine rd_ifs ?_
  | with_reducible refine rd_and ?_
  | with_reducible refine rd_or ?_
  | with_reducible refine rd_not ?_
  | with_reducible refine rd_yes ?_
  | with_reducible refine rd_andV ?_
  | with_reducible refine rd_orV ?_
  | with_reducible refine rd_notV ?_
  | with_reducible refine rd_if ?_
  | with_reducible refine rd_isN ?_
  | with_reducible refine rd_iT ?_
  | with_reducible refine rd_iF ?_
  | with_reducible refine rd_ret ?_
  | with_reducible refine rd_retN ?_
  | with_reducible refine rd_drop ?_
  | with_reducible refine rd_next ?_
  | with_reducible refine rd_cont ?_
  | with_reducible refine rd_brk ?_
  | with_reducible refine rd_nx ?_
  | with_reducible refine rd_rt ?_
  | with_reducible refine rd_ct ?_
  | with_reducible refine rd_bk ?_
  | with_reducible refine rd_par ?_
  | with_reducible refine rd_par3 ?_
  | with_reducible refine rd_par2 ?_
  | with_reducible refine rd_par33 ?_
  | with_reducible refine rd_gcons ?_
  | with_reducible refine rd_gnil ?_
  | with_reducible refine rd_sub ?_
  | with_reducible refine rd_tup ?_
  | with_reducible refine rd_lst ?_
  | ((with_reducible refine rd_tupT ?hl ?_); (case hl => exact Nat.le_of_ble_eq_true rfl))
  | ((with_reducible refine rd_lstT ?hl ?_); (case hl => exact Nat.le_of_ble_eq_true rfl))
  | with_reducible refine rd_bm ?_
  | with_reducible refine rd_bm0 ?_
  | with_reducible refine rd_sl ?_
  | with_reducible refine rd_noP ?_
  | with_reducible refine rd_part ?_
  | with_reducible refine rd_int ?_
  | with_reducible refine rd_int1 ?_
  | with_reducible refine rd_fld ?_
  | with_reducible refine rd_then ?_
  | with_reducible refine rd_raise ?_
  | with_reducible refine rd_one ?_
  | with_reducible refine rd_sfld ?_
  | with_reducible refine rd_ilist ?_
  | with_reducible refine rd_itup ?_
  | with_reducible refine rd_rng1 ?_
  | with_reducible refine rd_enum ?_
  | with_reducible refine rd_enumT ?_)
local macro_rules | `(tactic| walk_at "rd") => `(tactic| repeat (walk_at "rd1"))
def RowX (H : Hp) (t : Addr) (row : List Int) : Prop := RowT H t row ∧ row.length ≤ 1000 ∧ ∀ x ∈ row, 0 ≤ x ∧ x ≤ 1000
theorem RowX.same {H H' : Hp} {t : Addr} {row : List Int} (h : RowX H t row) (s : Same H H') : RowX H' t row := ⟨h.1.same s, h.2⟩
def spRD : L2.Sp := fun vs H Q _ => ∃ (t : Addr) (row : List Int), vs = [.ref t] ∧ RowX H t row ∧ ∀ H', Same H H' → Q (oK (rowDue row)) H'
def spSD : L2.Sp := fun vs H Q _ => ∃ (t u : Addr) (l r : List Int), vs = [.ref t, .ref u] ∧ RowX H t l ∧ RowX H u r ∧ ∀ H', Same H H' → Q (oK (sidesDue l r)) H'
def spBI : L2.Sp := fun vs H Q _ => ∃ (t u : Addr) (l r : List Int) (one : Bool) (k : Nat), vs = [.ref t, .ref u, .bl one, .int (k : Nat)] ∧ RowX H t l ∧ RowX H u r ∧ k ≤ 10000 ∧ ∀ H', Same H H' → Q (.bl (barsI l r one k)) H'
theorem rank_in {row : List Int} {x : Int} (h : x ∈ rank row) : x ∈ row := (rank_perm row).mem_iff.mp h
theorem ordB_rank {row ns : List Int} (p : ns.Perm row) (h : OrdB true ns) : ns = rank row := by
  refine rank_of p ?_
  have h2 : ns.Pairwise (· ≥ ·) := h
  exact h2.imp fun z => z
set_option hygiene false in
local macro_rules | `(tactic| walk_at "sum_top") => `(tactic| (
  walk_at "rd"
  refine rd_slL hrk ?_
  intro s1 Hs s10 Ss hs1
  rw [cut_take _ (by omega) (by rw [List.length_map, rank_len]; omega), ← List.map_take] at hs1
  walk_at "rd"
  refine rd_sum hs1 ?_
  have hrk2 := Ss _ _ hrk
  walk_at "rd"))
set_option hygiene false in
local macro_rules | `(tactic| walk_at "sum_rest") => `(tactic| (
  refine rd_slL hrk2 ?_
  intro s2 Ht s20 St hs2
  rw [cut_drop _ (by omega) (by rw [List.length_map, rank_len]; omega), ← List.map_drop] at hs2
  refine ⟨s2, rfl, ⟨_, SqL.of hs2⟩, fun D hD => ?_⟩
  refine lcv_list (xs := ((rank row).drop ((m : Nat) : Int).toNat).map V.int) ((((rank row).drop m).map fun x => min x (m : Int)).map V.int) hs2 (by simp only [List.length_map, Int.toNat_natCast]) (by simp only [List.length_map, List.length_drop, rank_len]; omega) hD (fun j x z Hu hx hz Su R hR => ?_) (fun Hu Su hDu => ?_)
  · rw [List.map_map, List.getElem?_map] at hz
    obtain ⟨y, hy, rfl⟩ := Option.map_eq_some_iff.mp hz
    rw [Int.toNat_natCast, List.getElem?_map, hy] at hx
    cases hx
    walk_at "rd"
    refine ⟨rfl, ?_⟩
    walk_at "rd"
    refine ⟨_, _, rfl, ?_⟩
    rw [ite_min]
    exact hR Hu (Same.refl _)
  walk_at "rd"
  refine rd_sum hDu ?_
  walk_at "rd"
  rw [Int.toNat_natCast] at *))
set_option hygiene false in
local macro_rules | `(tactic| walk_at "sum_cap") => `(tactic| (
  refine ⟨u, rfl, ⟨_, hur.1.sq⟩, fun D hD => ?_⟩
  refine lcv_tup (xs := r.map V.int) ((r.map fun x => min x (m : Int)).map V.int) hur.1 (by simp only [List.length_map]) (by have := hur.2.1; simp only [List.length_map]; omega) hD (fun j x z Hu hx hz Su R hR => ?_) (fun Hu Su hDu => ?_)
  · rw [List.map_map, List.getElem?_map] at hz
    obtain ⟨y, hy, rfl⟩ := Option.map_eq_some_iff.mp hz
    rw [List.getElem?_map, hy] at hx
    cases hx
    walk_at "rd"
    refine ⟨rfl, ?_⟩
    walk_at "rd"
    refine ⟨_, _, rfl, ?_⟩
    rw [ite_min]
    exact hR Hu (Same.refl _)
  walk_at "rd"
  refine rd_sum hDu ?_
  walk_at "rd"
  rw [Int.toNat_natCast] at *))
section
variable {P : Program} {w : World} {K : PySem.W.Frag} {mg : Str → Option Value} {base : Heap} (T : TX K mg)
theorem G__law_row_due : FnOk P w K mg base CX0 1 T.f__law_row_due T.d__law_row_due ["_law_row"] spRD := by
  refine T.F__law_row_due.ok sc__law_row_due (fun vs H Q E h => ?_) fun cdv A outer s H vs Q E hr h => ⟨_, (pss_cons (ps_if (pt_cmpR op_eq (pe_op op_mod (pe_callTy call_int1 (by rfl) T.n_int (by decide +kernel) (by exact (pa_cons (pe_callB (cr_sumTK (K := K) rfl) (by rfl) T.n_sum (by decide +kernel) (by exact (pa_cons (pv 0) pa_nil))) pa_nil))) pe_int) pe_int (nomark _)) (pss_one (ps_ret pe_int)) pss_nil) (pss_cons (ps_set (i := 1) sc__law_row_due.nd rfl (.inl rfl) (pe_callBK (cr_sortedRevTK (K := K) (b := true)) (by rfl) T.n_sorted (by decide +kernel) (by exact (pa_cons (pv 0) pa_nil)) (by exact (pk_cons pe_bl pk_nil)))) (pss_cons (ps_for PassesOwn.never rfl (pi_range2 (by rfl) T.n_range (by exact (pa_cons pe_int (pa_cons (pe_op op_add (pe_callB (cr_lenK (K := K)) (by rfl) T.n_len (by decide +kernel) (by exact (pa_cons (pv 0) pa_nil))) pe_int) pa_nil)))) (pg_name (i := 2) sc__law_row_due.nd rfl (.inr rfl)) (pss_one (ps_if (pt_cmpR op_gt (pe_callB (cr_sumK (K := K) rfl) (by rfl) T.n_sum (by decide +kernel) (by exact (pa_cons (pe_slice (sl_listK (K := K)) (pv 1) po_none (po_some (pv 2))) pa_nil))) (pe_op op_add (pe_op op_mul (pv 2) (pe_op op_sub (pv 2) pe_int)) (pe_callB (cr_sumK (K := K) rfl) (by rfl) T.n_sum (by decide +kernel) (by exact (pa_cons (by exact (pe_lc (own := [("_law_number", 3)]) (by rfl) sc__law_row_due.nd (pi_listK (K := K) (pe_slice (sl_listK (K := K)) (pv 1) (po_some (pv 2)) po_none)) (blkOk_by (own := [("_law_number", 3)]) (N := N__law_row_due) (sc := defScope s__law_row_due) (by decide +kernel)) (fun _ _ _ _ _ => (pg_name (i := 3) sc__law_row_due.nd rfl (.inl rfl))) (fun _ _ _ _ _ => pts_nil) (fun _ _ _ _ _ => (pe_callB (call_min2 rfl) (by rfl) T.n_min (by decide +kernel) (by exact (pa_cons (pv 3) (pa_cons (pv 2) pa_nil))))) )) pa_nil)))) (nomark _)) (pss_one (ps_ret (pv 2))) pss_nil))) (pss_one (ps_ret pe_non))))), ?_⟩
  · obtain ⟨t, row, rfl, _⟩ := h
    rfl
  · obtain ⟨t, row, rfl, ht, hQ⟩ := h
    have lr := ht.2.1
    walk_at "rd"
    refine rd_sumT ht.1 ?_
    walk_at "rd"
    refine .inl ⟨_, rfl, ?_⟩
    walk_at "rd"
    refine rd_rI (by decide) ?_
    walk_at "rd"
    by_cases c : sumI row % 2 = 1
    · refine iteT' (decide_eq_true c) ?_
      walk_at "rd"
      have q := hQ H (Same.refl H)
      unfold rowDue at q
      rw [if_pos c] at q
      exact q
    · refine iteF' (decide_eq_false c) ?_
      walk_at "rd"
      refine rd_ckw ?_
      walk_at "rd"
      refine ⟨t, row, rfl, rfl, ht.1, fun ns' rk H1 pm od rk0 S1 hrk => ?_⟩
      have en := ordB_rank pm od
      subst en
      walk_at "rd"
      refine rd_rng2 ?_
      walk_at "rd"
      refine rd_lenTup (ht.1.same S1) ?_
      rw [List.length_map]
      walk_at "rd"
      refine ⟨1, _, rfl, ⟨by omega, by omega, by omega, by omega⟩, ?_⟩
      have en : (((row.length : Nat) : Int) + 1 - 1).toNat = row.length := by omega
      rw [en]
      refine for_range (lo := 1) (n := row.length) (fun i σ H' => (∃ o2 o3, σ = [some (.ref t), some (.ref rk), o2, o3]) ∧ Same H H' ∧ H' rk = some (.lst ((rank row).map V.int)) ∧ ∀ j, j < i → badRow row (j + 1) = false) ⟨⟨_, _, rfl⟩, S1, hrk, fun j h => absurd h (by omega)⟩ (fun i σ H' hi pv => ?_) (fun σ H' pv => ?_)
      · obtain ⟨⟨o2, o3, rfl⟩, S, hrk, hb⟩ := pv
        rw [show (1 : Int) + (i : Nat) = ((i + 1 : Nat) : Int) by omega]
        obtain ⟨m, em⟩ : ∃ m, m = i + 1 := ⟨_, rfl⟩
        rw [← em]
        walk_at "sum_top"
        refine rd_rI (.inl ⟨by omega, by omega⟩) ?_
        walk_at "rd"
        walk_at "sum_rest"
        have S' := ((S.trans Ss).trans St).trans Su
        have hrk3 := Su _ _ (St _ _ hrk2)
        have eb : decide ((m : Int) * ((m : Int) - 1) + (((rank row).drop m).map fun x => min x (m : Int)).sum < ((rank row).take m).sum) = badRow row m := rfl
        rw [eb]
        cases d : badRow row m with
        | true =>
          refine rd_iT ?_
          walk_at "rd"
          have q := hQ Hu S'
          unfold rowDue at q
          rw [em] at d
          rw [if_neg c, firstK_hit hi hb d, ← em] at q
          exact q
        | false =>
          refine rd_iF ?_
          walk_at "rd"
          refine ⟨⟨_, _, rfl⟩, S', hrk3, fun j hj => ?_⟩
          by_cases e : j = i
          · rw [e, ← em]; exact d
          · exact hb j (by omega)
      · obtain ⟨⟨o2, o3, rfl⟩, S, hrk, hb⟩ := pv
        walk_at "rd"
        have q := hQ H' S
        unfold rowDue at q
        rw [if_neg c, firstK_none hb] at q
        exact q
theorem G__law_sides_due : FnOk P w K mg base CX0 1 T.f__law_sides_due T.d__law_sides_due ["_law_left", "_law_right_here"] spSD := by
  refine T.F__law_sides_due.ok sc__law_sides_due (fun vs H Q E h => ?_) fun cdv A outer s H vs Q E hr h => ⟨_, (pss_cons (ps_if (pt_cmpR op_ne (pe_callB (cr_sumTK (K := K) rfl) (by rfl) T.n_sum (by decide +kernel) (by exact (pa_cons (pv 0) pa_nil))) (pe_callB (cr_sumTK (K := K) rfl) (by rfl) T.n_sum (by decide +kernel) (by exact (pa_cons (pv 1) pa_nil))) (nomark _)) (pss_one (ps_ret pe_int)) pss_nil) (pss_cons (ps_set (i := 2) sc__law_sides_due.nd rfl (.inl rfl) (pe_callBK (cr_sortedRevTK (K := K) (b := true)) (by rfl) T.n_sorted (by decide +kernel) (by exact (pa_cons (pv 0) pa_nil)) (by exact (pk_cons pe_bl pk_nil)))) (pss_cons (ps_for PassesOwn.never rfl (pi_range2 (by rfl) T.n_range (by exact (pa_cons pe_int (pa_cons (pe_op op_add (pe_callB (cr_lenK (K := K)) (by rfl) T.n_len (by decide +kernel) (by exact (pa_cons (pv 0) pa_nil))) pe_int) pa_nil)))) (pg_name (i := 3) sc__law_sides_due.nd rfl (.inr rfl)) (pss_one (ps_if (pt_cmpR op_gt (pe_callB (cr_sumK (K := K) rfl) (by rfl) T.n_sum (by decide +kernel) (by exact (pa_cons (pe_slice (sl_listK (K := K)) (pv 2) po_none (po_some (pv 3))) pa_nil))) (pe_callB (cr_sumK (K := K) rfl) (by rfl) T.n_sum (by decide +kernel) (by exact (pa_cons (by exact (pe_lc (own := [("_law_number", 4)]) (by rfl) sc__law_sides_due.nd (pi_tupK (K := K) (pv 1)) (blkOk_by (own := [("_law_number", 4)]) (N := N__law_sides_due) (sc := defScope s__law_sides_due) (by decide +kernel)) (fun _ _ _ _ _ => (pg_name (i := 4) sc__law_sides_due.nd rfl (.inl rfl))) (fun _ _ _ _ _ => pts_nil) (fun _ _ _ _ _ => (pe_callB (call_min2 rfl) (by rfl) T.n_min (by decide +kernel) (by exact (pa_cons (pv 4) (pa_cons (pv 3) pa_nil))))) )) pa_nil))) (nomark _)) (pss_one (ps_ret (pv 3))) pss_nil))) (pss_one (ps_ret pe_non))))), ?_⟩
  · obtain ⟨t, u, row, r, rfl, _⟩ := h
    rfl
  · obtain ⟨t, u, row, r, rfl, ht, hu, hQ⟩ := h
    have lr := ht.2.1
    walk_at "rd"
    refine rd_sumT ht.1 ?_
    walk_at "rd"
    refine rd_sumT hu.1 ?_
    walk_at "rd"
    by_cases c : sumI row = sumI r
    · refine iteF' (by rw [sumI_sum, sumI_sum, c]; simp) ?_
      walk_at "rd"
      refine rd_ckw ?_
      walk_at "rd"
      refine ⟨t, row, rfl, rfl, ht.1, fun ns' rk H1 pm od rk0 S1 hrk => ?_⟩
      have en := ordB_rank pm od
      subst en
      walk_at "rd"
      refine rd_rng2 ?_
      walk_at "rd"
      refine rd_lenTup (ht.1.same S1) ?_
      rw [List.length_map]
      walk_at "rd"
      refine ⟨1, _, rfl, ⟨by omega, by omega, by omega, by omega⟩, ?_⟩
      have en : (((row.length : Nat) : Int) + 1 - 1).toNat = row.length := by omega
      rw [en]
      refine for_range (lo := 1) (n := row.length) (fun i σ H' => (∃ o2 o3, σ = [some (.ref t), some (.ref u), some (.ref rk), o2, o3]) ∧ Same H H' ∧ H' rk = some (.lst ((rank row).map V.int)) ∧ ∀ j, j < i → badSides row r (j + 1) = false) ⟨⟨_, _, rfl⟩, S1, hrk, fun j h => absurd h (by omega)⟩ (fun i σ H' hi pv => ?_) (fun σ H' pv => ?_)
      · obtain ⟨⟨o2, o3, rfl⟩, S, hrk, hb⟩ := pv
        rw [show (1 : Int) + (i : Nat) = ((i + 1 : Nat) : Int) by omega]
        obtain ⟨m, em⟩ : ∃ m, m = i + 1 := ⟨_, rfl⟩
        rw [← em]
        walk_at "sum_top"
        have hur := hu.same (S.trans Ss)
        walk_at "sum_cap"
        have S' := (S.trans Ss).trans Su
        have hrk3 := Su _ _ hrk2
        have eb : decide ((r.map fun x => min x (m : Int)).sum < ((rank row).take m).sum) = badSides row r m := rfl
        rw [eb]
        cases d : badSides row r m with
        | true =>
          refine rd_iT ?_
          walk_at "rd"
          have q := hQ Hu S'
          unfold sidesDue at q
          rw [em] at d
          rw [if_pos c, firstK_hit hi hb d, ← em] at q
          exact q
        | false =>
          refine rd_iF ?_
          walk_at "rd"
          refine ⟨⟨_, _, rfl⟩, S', hrk3, fun j hj => ?_⟩
          by_cases e : j = i
          · rw [e, ← em]; exact d
          · exact hb j (by omega)
      · obtain ⟨⟨o2, o3, rfl⟩, S, hrk, hb⟩ := pv
        walk_at "rd"
        have q := hQ H' S
        unfold sidesDue at q
        rw [if_pos c, firstK_none hb] at q
        exact q
    · refine iteT' (by rw [sumI_sum, sumI_sum]; simp [c]) ?_
      walk_at "rd"
      have q := hQ H (Same.refl H)
      unfold sidesDue at q
      rw [if_neg c] at q
      exact q
theorem G__law_bars : FnOk P w K mg base CX0 1 T.f__law_bars T.d__law_bars ["_law_left", "_law_right_here", "_law_is_one", "_law_k"] spBI := by
  refine T.F__law_bars.ok sc__law_bars (fun vs H Q E h => ?_) fun cdv A outer s H vs Q E hr h => ⟨_, (pss_cons (ps_if (pt_cmpR op_gt (pv 3) (pe_callB (cr_lenK (K := K)) (by rfl) T.n_len (by decide +kernel) (by exact (pa_cons (pv 0) pa_nil))) (nomark _)) (pss_one (ps_ret pe_bl)) pss_nil) (pss_cons (ps_if (pt_cmpR op_eq (pv 3) pe_int (nomark _)) (pss_one (ps_ret (pe_ifExp (pt_val (pv 2)) (pe_cmpR op_eq (pe_op op_mod (pe_callTy call_int1 (by rfl) T.n_int (by decide +kernel) (by exact (pa_cons (pe_callB (cr_sumTK (K := K) rfl) (by rfl) T.n_sum (by decide +kernel) (by exact (pa_cons (pv 0) pa_nil))) pa_nil))) pe_int) pe_int (nomark _)) (pe_cmpR op_ne (pe_callB (cr_sumTK (K := K) rfl) (by rfl) T.n_sum (by decide +kernel) (by exact (pa_cons (pv 0) pa_nil))) (pe_callB (cr_sumTK (K := K) rfl) (by rfl) T.n_sum (by decide +kernel) (by exact (pa_cons (pv 1) pa_nil))) (nomark _))))) pss_nil) (pss_cons (ps_set (i := 4) sc__law_bars.nd rfl (.inl rfl) (pe_callBK (cr_sortedRevTK (K := K) (b := true)) (by rfl) T.n_sorted (by decide +kernel) (by exact (pa_cons (pv 0) pa_nil)) (by exact (pk_cons pe_bl pk_nil)))) (pss_cons (ps_if (pt_val (pv 2)) (pss_one (ps_ret (pe_cmpR op_gt (pe_callB (cr_sumK (K := K) rfl) (by rfl) T.n_sum (by decide +kernel) (by exact (pa_cons (pe_slice (sl_listK (K := K)) (pv 4) po_none (po_some (pv 3))) pa_nil))) (pe_op op_add (pe_op op_mul (pv 3) (pe_op op_sub (pv 3) pe_int)) (pe_callB (cr_sumK (K := K) rfl) (by rfl) T.n_sum (by decide +kernel) (by exact (pa_cons (by exact (pe_lc (own := [("_law_number", 5)]) (by rfl) sc__law_bars.nd (pi_listK (K := K) (pe_slice (sl_listK (K := K)) (pv 4) (po_some (pv 3)) po_none)) (blkOk_by (own := [("_law_number", 5)]) (N := N__law_bars) (sc := defScope s__law_bars) (by decide +kernel)) (fun _ _ _ _ _ => (pg_name (i := 5) sc__law_bars.nd rfl (.inl rfl))) (fun _ _ _ _ _ => pts_nil) (fun _ _ _ _ _ => (pe_callB (call_min2 rfl) (by rfl) T.n_min (by decide +kernel) (by exact (pa_cons (pv 5) (pa_cons (pv 3) pa_nil))))) )) pa_nil)))) (nomark _)))) pss_nil) (pss_one (ps_ret (pe_cmpR op_gt (pe_callB (cr_sumK (K := K) rfl) (by rfl) T.n_sum (by decide +kernel) (by exact (pa_cons (pe_slice (sl_listK (K := K)) (pv 4) po_none (po_some (pv 3))) pa_nil))) (pe_callB (cr_sumK (K := K) rfl) (by rfl) T.n_sum (by decide +kernel) (by exact (pa_cons (by exact (pe_lc (own := [("_law_number", 5)]) (by rfl) sc__law_bars.nd (pi_tupK (K := K) (pv 1)) (blkOk_by (own := [("_law_number", 5)]) (N := N__law_bars) (sc := defScope s__law_bars) (by decide +kernel)) (fun _ _ _ _ _ => (pg_name (i := 5) sc__law_bars.nd rfl (.inl rfl))) (fun _ _ _ _ _ => pts_nil) (fun _ _ _ _ _ => (pe_callB (call_min2 rfl) (by rfl) T.n_min (by decide +kernel) (by exact (pa_cons (pv 5) (pa_cons (pv 3) pa_nil))))) )) pa_nil))) (nomark _)))))))), ?_⟩
  · obtain ⟨t, u, row, r, one, m, rfl, _⟩ := h
    rfl
  · obtain ⟨t, u, row, r, one, m, rfl, ht, hu, m1, hQ⟩ := h
    have lr := ht.2.1
    walk_at "rd"
    refine rd_lenTup ht.1 ?_
    rw [List.length_map]
    walk_at "rd"
    rw [bars_ineq] at hQ
    by_cases c0 : m ≤ row.length
    · refine iteF' (decide_eq_false (by omega)) ?_
      rw [decide_eq_true c0, Bool.true_and] at hQ
      unfold ineqI at hQ
      walk_at "rd"
      by_cases c1 : m = 0
      · subst c1
        refine iteT' (by decide) ?_
        rw [if_pos rfl] at hQ
        walk_at "rd"
        cases one with
        | true =>
          refine rd_iT ?_
          walk_at "rd"
          refine rd_sumT ht.1 ?_
          walk_at "rd"
          refine .inl ⟨_, rfl, ?_⟩
          walk_at "rd"
          refine rd_rI (by decide) ?_
          walk_at "rd"
          exact hQ H (Same.refl H)
        | false =>
          refine rd_iF ?_
          walk_at "rd"
          refine rd_sumT ht.1 ?_
          walk_at "rd"
          refine rd_sumT hu.1 ?_
          walk_at "rd"
          exact hQ H (Same.refl H)
      · refine iteF' (decide_eq_false (by omega)) ?_
        rw [if_neg c1] at hQ
        walk_at "rd"
        refine rd_ckw ?_
        walk_at "rd"
        refine ⟨t, row, rfl, rfl, ht.1, fun ns' rk H1 pm od rk0 S1 hrk => ?_⟩
        have en := ordB_rank pm od
        subst en
        walk_at "rd"
        cases one with
        | true =>
          refine rd_iT ?_
          walk_at "sum_top"
          refine rd_rI (.inl ⟨by omega, by omega⟩) ?_
          walk_at "rd"
          walk_at "sum_rest"
          exact hQ Hu (((S1.trans Ss).trans St).trans Su)
        | false =>
          refine rd_iF ?_
          walk_at "sum_top"
          have hur := hu.same (S1.trans Ss)
          walk_at "sum_cap"
          exact hQ Hu ((S1.trans Ss).trans Su)
    · refine iteT' (decide_eq_true (by omega)) ?_
      walk_at "rd"
      rw [decide_eq_false c0, Bool.false_and] at hQ
      exact hQ H (Same.refl H)
end
end K10

namespace K10
open PySem PySem.Spec PyProof.Rows L2 KX
local macro_rules | `(tactic| walk_at "rd1") => `(tactic| first
  | with_reducible refine rd_seq ?_
  | with_reducible refine rd_for ?_
  | with_reducible refine rd_lc ?_
  | with_reducible refine rd_asg ?_
  | ((with_reducible refine' rd_var ?rdv ?_); (case rdv => exact rfl))
  | with_reducible refine rd_c ?_
  | with_reducible refine rd_op ?_
  | with_reducible refine rd_un ?_
  | with_reducible refine rd_cons ?_
  | with_reducible refine rd_nil ?_
  | with_reducible refine rd_call ?_
  | with_reducible refine rd_cb ?_
  | with_reducible refine rd_tB ?_
  | with_reducible refine rd_test ?_
  | with_reducible refine rd_bl ?_
  | with_reducible refine rd_rI0 ?_
  | with_reducible refine rd_eqI ?_
  | with_reducible refine rd_neI ?_
  | with_reducible refine rd_rU ?_
  | with_reducible refine rd_name ?_
  | with_reducible refine rd_ifs ?_
  | with_reducible refine rd_and ?_
  | with_reducible refine rd_or ?_
  | with_reducible refine rd_not ?_
  | with_reducible refine rd_yes ?_
  | with_reducible refine rd_andV ?_
  | with_reducible refine rd_orV ?_
  | with_reducible refine rd_notV ?_
  | with_reducible refine rd_if ?_
  | with_reducible refine rd_isN ?_
  | with_reducible refine rd_iT ?_
  | with_reducible refine rd_iF ?_
  | with_reducible refine rd_ret ?_
  | with_reducible refine rd_retN ?_
  | with_reducible refine rd_drop ?_
  | with_reducible refine rd_next ?_
  | with_reducible refine rd_cont ?_
  | with_reducible refine rd_brk ?_
  | with_reducible refine rd_nx ?_
  | with_reducible refine rd_rt ?_
  | with_reducible refine rd_ct ?_
  | with_reducible refine rd_bk ?_
  | with_reducible refine rd_par ?_
  | with_reducible refine rd_par3 ?_
  | with_reducible refine rd_par2 ?_
  | with_reducible refine rd_par33 ?_
  | with_reducible refine rd_gcons ?_
  | with_reducible refine rd_gnil ?_
  | with_reducible refine rd_sub ?_
  | with_reducible refine rd_tup ?_
  | with_reducible refine rd_lst ?_
  | ((with_reducible refine rd_tupT ?hl ?_); (case hl => exact Nat.le_of_ble_eq_true rfl))
  | ((with_reducible refine rd_lstT ?hl ?_); (case hl => exact Nat.le_of_ble_eq_true rfl))
  | with_reducible refine rd_bm ?_
  | with_reducible refine rd_bm0 ?_
  | with_reducible refine rd_sl ?_
  | with_reducible refine rd_noP ?_
  | with_reducible refine rd_part ?_
  | with_reducible refine rd_int ?_
  | with_reducible refine rd_int1 ?_
  | with_reducible refine rd_fld ?_
  | with_reducible refine rd_then ?_
  | with_reducible refine rd_raise ?_
  | with_reducible refine rd_one ?_
  | with_reducible refine rd_sfld ?_
  | with_reducible refine rd_ilist ?_
  | with_reducible refine rd_itup ?_
  | with_reducible refine rd_rng1 ?_
  | with_reducible refine rd_enum ?_
  | with_reducible refine rd_enumT ?_)
local macro_rules | `(tactic| walk_at "rd") => `(tactic| repeat (walk_at "rd1"))
theorem fm_count (b : Int) : ∀ ns : List Int, (ns.filterMap fun o => if o = b then some (V.int o) else none).length = ns.count b
  | [] => rfl
  | n :: ns => by
    rw [List.filterMap_cons, List.count_cons]
    by_cases c : n = b
    · simp [c, fm_count b ns]
    · simp [c, fm_count b ns]
def spLRw : L2.Sp := fun vs H Q _ => ∃ (t : Addr) (a b : Int) (U : PlanI), vs = [.ref t, .int a, .int b] ∧ VwL H t U ∧ U.length ≤ 1000 ∧ ∀ H' y l r, Same H H' → H' y = some (.tup [.ref l, .ref r]) → RowT H' l (rowI U a b) → RowT H' r (rowI U b a) → Q (.ref y) H'
def spLF : L2.Sp := fun vs H Q _ => ∃ (t : Addr) (U : PlanI), vs = [.ref t] ∧ VwL H t U ∧ U.length ≤ 1000 ∧ ∀ H' y, Same H H' → FaultAt H' y (faultI U) → Q y H'
theorem VwL.rowx {H H' : Hp} {t l : Addr} {U : PlanI} (h : VwL H t U) (lu : U.length ≤ 1000) {a b : Int} (hl : RowT H' l (rowI U a b)) : RowX H' l (rowI U a b) := by
  obtain ⟨vs, _, _, c⟩ := h
  exact ⟨hl, Nat.le_trans (rowI_len U a b) lu, fun x hx => ⟨rowI_nn U a b x hx, by have := rowI_le (d := 60) c a b x hx; omega⟩⟩
def offs : Nat → Nat
  | 0 => 0
  | 1 => 4
  | 2 => 7
  | 3 => 9
  | _ => 10
theorem KI_at : ∀ i : Fin 4, ∀ j : Fin 4, i.val + j.val < 4 → KI[offs i.val + j.val]? = some (((i.val : Nat) : Int), ((i.val + j.val : Nat) : Int)) := by decide
theorem offs_next : ∀ i : Fin 4, offs i.val + (4 - i.val) = offs (i.val + 1) := by decide
set_option hygiene false in
local macro_rules | `(tactic| walk_at "lr_ab") => `(tactic| (
  refine lcf_list (xs := vs.map V.ref) U (fun v => if v.1 = a then some (V.int (v.2.count b : Nat)) else none) hvs1 (by rw [List.length_map, lv]) (by rw [List.length_map, lv]; omega) hD (fun i y e H1 hy he S1 R N hR hN => ?_) (fun H1 S1 hD1 => ?_)
  · rw [List.getElem?_map] at hy
    obtain ⟨v, hv, rfl⟩ := Option.map_eq_some_iff.mp hy
    obtain ⟨e', he', hve⟩ := paired_get pv1 hv
    rw [he] at he'
    cases he'
    obtain ⟨r1, h1, h2⟩ := hve.same S1
    have le := lvs e (List.mem_of_getElem? he)
    walk_at "rd"
    refine ⟨rfl, ?_⟩
    walk_at "rd"
    refine rd_ixT h1 rfl ?_
    walk_at "rd"
    by_cases c : e.1 = a
    · refine iteT' (decide_eq_true c) ?_
      walk_at "rd"
      refine rd_ixT h1 rfl ?_
      refine ⟨r1, rfl, ⟨_, h2.tup.sq⟩, fun D2 hD2 => ?_⟩
      refine lcf_tup (xs := e.2.map V.int) e.2 (fun o => if o = b then some (V.int o) else none) h2.tup (by rw [List.length_map]) (by rw [List.length_map]; omega) hD2 (fun j y o H2 hy2 ho S2 R2 N2 hR2 hN2 => ?_) (fun H2 S2 hD3 => ?_)
      · rw [List.getElem?_map, ho] at hy2
        cases hy2
        walk_at "rd"
        refine ⟨rfl, ?_⟩
        walk_at "rd"
        by_cases c2 : o = b
        · refine iteT' (decide_eq_true c2) ?_
          walk_at "rd"
          exact hR2 _ H2 (by rw [if_pos c2]) (Same.refl _)
        · refine iteF' (decide_eq_false c2) ?_
          exact hN2 H2 (by rw [if_neg c2]) (Same.refl _)
      · walk_at "rd"
        refine rd_len hD3 ?_
        rw [fm_count]
        exact hR _ H2 (by rw [if_pos c]) S2
    · refine iteF' (decide_eq_false c) ?_
      exact hN H1 (by rw [if_neg c]) (Same.refl _)
  rw [fm_row] at hD1
  walk_at "rd"
  refine rd_tupL hD1 ?_))
set_option hygiene false in
local macro_rules | `(tactic| walk_at "lr_ba") => `(tactic| (
  refine lcf_list (xs := vs.map V.ref) U (fun v => if v.1 = b then some (V.int (v.2.count a : Nat)) else none) hvs1 (by rw [List.length_map, lv]) (by rw [List.length_map, lv]; omega) hD (fun i y e H1 hy he S1 R N hR hN => ?_) (fun H1 S1 hD1 => ?_)
  · rw [List.getElem?_map] at hy
    obtain ⟨v, hv, rfl⟩ := Option.map_eq_some_iff.mp hy
    obtain ⟨e', he', hve⟩ := paired_get pv1 hv
    rw [he] at he'
    cases he'
    obtain ⟨r1, h1, h2⟩ := hve.same S1
    have le := lvs e (List.mem_of_getElem? he)
    walk_at "rd"
    refine ⟨rfl, ?_⟩
    walk_at "rd"
    refine rd_ixT h1 rfl ?_
    walk_at "rd"
    by_cases c : e.1 = b
    · refine iteT' (decide_eq_true c) ?_
      walk_at "rd"
      refine rd_ixT h1 rfl ?_
      refine ⟨r1, rfl, ⟨_, h2.tup.sq⟩, fun D2 hD2 => ?_⟩
      refine lcf_tup (xs := e.2.map V.int) e.2 (fun o => if o = a then some (V.int o) else none) h2.tup (by rw [List.length_map]) (by rw [List.length_map]; omega) hD2 (fun j y o H2 hy2 ho S2 R2 N2 hR2 hN2 => ?_) (fun H2 S2 hD3 => ?_)
      · rw [List.getElem?_map, ho] at hy2
        cases hy2
        walk_at "rd"
        refine ⟨rfl, ?_⟩
        walk_at "rd"
        by_cases c2 : o = a
        · refine iteT' (decide_eq_true c2) ?_
          walk_at "rd"
          exact hR2 _ H2 (by rw [if_pos c2]) (Same.refl _)
        · refine iteF' (decide_eq_false c2) ?_
          exact hN2 H2 (by rw [if_neg c2]) (Same.refl _)
      · walk_at "rd"
        refine rd_len hD3 ?_
        rw [fm_count]
        exact hR _ H2 (by rw [if_pos c]) S2
    · refine iteF' (decide_eq_false c) ?_
      exact hN H1 (by rw [if_neg c]) (Same.refl _)
  rw [fm_row] at hD1
  walk_at "rd"
  refine rd_tupL hD1 ?_))
set_option hygiene false in
local macro_rules | `(tactic| walk_at "lf_end") => `(tactic| (
  walk_at "rd"
  refine rd_notN ?_
  walk_at "rd"
  cases d : kindDue U (i : Nat) (i + j : Nat) with
  | none =>
    refine iteF' (by show (!decide (V.non = V.non)) = false; simp) ?_
    walk_at "rd"
    exact ⟨⟨_, _, _, _, rfl⟩, (S.trans S1).trans S2, f2 d⟩
  | some k =>
    refine iteT' (by show (!decide (V.int (k : Nat) = V.non)) = true; simp) ?_
    walk_at "rd"
    intro z H3 z0 S3 hz
    refine hQ H3 (.ref z) (((S.trans S1).trans S2).trans S3) ?_
    rw [f1 k d]
    exact ⟨z, rfl, Tup.of hz⟩))
section
variable {P : Program} {w : World} {K : PySem.W.Frag} {mg : Str → Option Value} {base : Heap} (T : TX K mg)
theorem G__law_rows : FnOk P w K mg base CX0 1 T.f__law_rows T.d__law_rows ["_law_plan_here", "_law_a", "_law_b"] spLRw := by
  refine T.F__law_rows.ok sc__law_rows (fun vs H Q E h => ?_) fun cdv A outer s H vs Q E hr h => ⟨_, (pss_cons (ps_set (i := 3) sc__law_rows.nd rfl (.inl rfl) (pe_tupleK (K := K) (by rfl) T.n_tuple (by exact (pe_lc (own := [("_law_view", 4)]) (by rfl) sc__law_rows.nd (pi_listK (K := K) (pv 0)) (blkOk_by (own := [("_law_view", 4)]) (N := N__law_rows) (sc := defScope s__law_rows) (by decide +kernel)) (fun _ _ _ _ _ => (pg_name (i := 4) sc__law_rows.nd rfl (.inl rfl))) (fun _ _ _ _ _ => pts_one (pt_cmpR op_eq (pe_ix (ix_tupK (K := K)) (pv 4) pe_int (fun _ _ => rfl)) (pv 1) (nomark _))) (fun _ _ _ _ _ => (pe_callB (cr_lenK (K := K)) (by rfl) T.n_len (by decide +kernel) (by exact (pa_cons (by exact (pe_lc (own := [("_law_one", 5)]) (by rfl) sc__law_rows.nd (pi_tupK (K := K) (pe_ix (ix_tupK (K := K)) (pv 4) pe_int (fun _ _ => rfl))) (blkOk_by (own := [("_law_one", 5)]) (N := N__law_rows) (sc := ({ kind := PySem.ScopeKind.function, names := [(PySem.Str.ofString ".0", PySem.NameKind.local), (PySem.Str.ofString "_law_view", PySem.NameKind.local), (PySem.Str.ofString "len", PySem.NameKind.globalImplicit), (PySem.Str.ofString "_law_a", PySem.NameKind.cell), (PySem.Str.ofString "_law_b", PySem.NameKind.cell)], isGenerator := false, isCoroutine := false, more := [] } : PySem.Scope)) (by decide +kernel)) (fun _ _ _ _ _ => (pg_name (i := 5) sc__law_rows.nd rfl (.inl rfl))) (fun _ _ _ _ _ => pts_one (pt_cmpR op_eq (pv 5) (pv 2) (nomark _))) (fun _ _ _ _ _ => (pv 5)) )) pa_nil)))) )))) (pss_one (ps_ret (pe_tup (pa_cons (pv 3) (pa_cons (pe_tupleK (K := K) (by rfl) T.n_tuple (by exact (pe_lc (own := [("_law_view", 4)]) (by rfl) sc__law_rows.nd (pi_listK (K := K) (pv 0)) (blkOk_by (own := [("_law_view", 4)]) (N := N__law_rows) (sc := defScope s__law_rows) (by decide +kernel)) (fun _ _ _ _ _ => (pg_name (i := 4) sc__law_rows.nd rfl (.inl rfl))) (fun _ _ _ _ _ => pts_one (pt_cmpR op_eq (pe_ix (ix_tupK (K := K)) (pv 4) pe_int (fun _ _ => rfl)) (pv 2) (nomark _))) (fun _ _ _ _ _ => (pe_callB (cr_lenK (K := K)) (by rfl) T.n_len (by decide +kernel) (by exact (pa_cons (by exact (pe_lc (own := [("_law_one", 5)]) (by rfl) sc__law_rows.nd (pi_tupK (K := K) (pe_ix (ix_tupK (K := K)) (pv 4) pe_int (fun _ _ => rfl))) (blkOk_by (own := [("_law_one", 5)]) (N := N__law_rows) (sc := ({ kind := PySem.ScopeKind.function, names := [(PySem.Str.ofString ".0", PySem.NameKind.local), (PySem.Str.ofString "_law_view", PySem.NameKind.local), (PySem.Str.ofString "len", PySem.NameKind.globalImplicit), (PySem.Str.ofString "_law_a", PySem.NameKind.cell), (PySem.Str.ofString "_law_b", PySem.NameKind.cell)], isGenerator := false, isCoroutine := false, more := [] } : PySem.Scope)) (by decide +kernel)) (fun _ _ _ _ _ => (pg_name (i := 5) sc__law_rows.nd rfl (.inl rfl))) (fun _ _ _ _ _ => pts_one (pt_cmpR op_eq (pv 5) (pv 1) (nomark _))) (fun _ _ _ _ _ => (pv 5)) )) pa_nil)))) ))) pa_nil)))))), ?_⟩
  · obtain ⟨t, a, b, U, rfl, _⟩ := h
    rfl
  · obtain ⟨t, a, b, U, rfl, hU, lu, hQ⟩ := h
    obtain ⟨vs, hvs, pvs, lvs⟩ := id hU
    have lv := paired_len pvs
    walk_at "rd"
    refine ⟨t, rfl, ⟨_, SqL.of hvs⟩, fun D hD => ?_⟩
    have hvs1 := hvs
    have pv1 := pvs
    walk_at "lr_ab"
    intro l H2 l0 S2 hl
    have Sa := S1.trans S2
    have hl2 : RowT H2 l (rowI U a b) := Tup.of hl
    generalize H2 = Hm at Sa hl2
    clear hl l0 S2 hD1 S1 hvs1 pv1 hD
    walk_at "rd"
    have hvs1 := Sa _ _ hvs
    have pv1 := views_same pvs Sa
    refine ⟨t, rfl, ⟨_, SqL.of hvs1⟩, fun D hD => ?_⟩
    walk_at "lr_ba"
    intro r H3 r0 S3 hr3
    walk_at "rd"
    intro y H4 y0 S4 hy
    exact hQ H4 y l r ((Sa.trans S1).trans (S3.trans S4)) hy (hl2.same (S1.trans (S3.trans S4))) (RowT.same (Tup.of hr3) S4)
theorem G__law_fault : FnOk P w K mg base CX0 2 T.f__law_fault T.d__law_fault ["_law_plan_here"] spLF := by
  refine T.F__law_fault.ok sc__law_fault (fun vs H Q E h => ?_) fun cdv A outer s H vs Q E hr h => ⟨_, (pss_cons (ps_for PassesOwn.never rfl (pi_range1 (by rfl) T.n_range (by exact (pa_cons pe_int pa_nil))) (pg_name (i := 1) sc__law_fault.nd rfl (.inl rfl)) (pss_one (ps_for PassesOwn.never rfl (pi_range2 (by rfl) T.n_range (by exact (pa_cons (pv 1) (pa_cons pe_int pa_nil)))) (pg_name (i := 2) sc__law_fault.nd rfl (.inl rfl)) (pss_cons (ps_asg (pe_call (G__law_rows T) (hr.mono (by decide)) (by rfl) T.m__law_rows T.F__law_rows.kp T.b__law_rows .nil pass0 (by exact (pa_cons (pv 0) (pa_cons (pv 1) (pa_cons (pv 2) pa_nil))))) (pg_tupK (K := K) (n := 2) (by rfl) (pgs_cons (pg_name (i := 3) sc__law_fault.nd rfl (.inl rfl)) (pgs_cons (pg_name (i := 4) sc__law_fault.nd rfl (.inl rfl)) pgs_nil)))) (pss_cons (ps_set (i := 5) sc__law_fault.nd rfl (.inl rfl) (pe_ifExp (pt_cmpR op_eq (pv 1) (pv 2) (nomark _)) (pe_call (G__law_row_due T) (hr.mono (by decide)) (by rfl) T.m__law_row_due T.F__law_row_due.kp T.b__law_row_due .nil pass0 (by exact (pa_cons (pv 3) pa_nil))) (pe_call (G__law_sides_due T) (hr.mono (by decide)) (by rfl) T.m__law_sides_due T.F__law_sides_due.kp T.b__law_sides_due .nil pass0 (by exact (pa_cons (pv 3) (pa_cons (pv 4) pa_nil)))))) (pss_one (ps_if (pt_cmp (pc_notN (pv 5))) (pss_one (ps_ret (pe_tup (pa_cons (pv 1) (pa_cons (pv 2) (pa_cons (pv 5) pa_nil)))))) pss_nil))))))) (pss_one (ps_ret pe_non))), ?_⟩
  · obtain ⟨t, U, rfl, _⟩ := h
    rfl
  · obtain ⟨t, U, rfl, hU, lu, hQ⟩ := h
    walk_at "rd"
    refine ⟨by omega, by omega, ?_⟩
    refine for_range (lo := 0) (n := 4) (fun i σ H' => (∃ o1 o2 o3 o4 o5, σ = [some (.ref t), o1, o2, o3, o4, o5]) ∧ Same H H' ∧ faultL U (KI.drop (offs i)) = faultI U) ⟨⟨_, _, _, _, _, rfl⟩, Same.refl _, rfl⟩ (fun i σ H' hi pv => ?_) (fun σ H' pv => ?_)
    · obtain ⟨⟨o1, o2, o3, o4, o5, rfl⟩, S, inv⟩ := pv
      rw [show (0 : Int) + (i : Nat) = (i : Nat) by omega]
      walk_at "rd"
      refine rd_rng2 ?_
      walk_at "rd"
      refine ⟨_, _, rfl, ⟨by omega, by omega, by omega, by omega⟩, ?_⟩
      have en : ((4 : Int) - (i : Nat)).toNat = 4 - i := by omega
      rw [en]
      refine for_range (lo := ((i : Nat) : Int)) (n := 4 - i) (fun j σ H' => (∃ o2 o3 o4 o5, σ = [some (.ref t), some (.int (i : Nat)), o2, o3, o4, o5]) ∧ Same H H' ∧ faultL U (KI.drop (offs i + j)) = faultI U) ⟨⟨_, _, _, _, rfl⟩, S, inv⟩ (fun j σ H' hj pv => ?_) (fun σ H' pv => ?_)
      · obtain ⟨⟨o2, o3, o4, o5, rfl⟩, S, inv⟩ := pv
        have he := KI_at ⟨i, hi⟩ ⟨j, by omega⟩ (by show i + j < 4; omega)
        have he : KI[offs i + j]? = some (((i : Nat) : Int), ((i + j : Nat) : Int)) := he
        obtain ⟨f1, f2⟩ := faultL_step he inv
        rw [show ((i : Nat) : Int) + (j : Nat) = ((i + j : Nat) : Int) by omega]
        walk_at "rd"
        refine ⟨t, _, _, U, rfl, hU.same S, lu, fun H1 y l r S1 hy hl hr3 => ?_⟩
        refine rd_gtup (Tup.of hy) rfl ?_
        walk_at "rd"
        have xl := hU.rowx lu hl
        have xr := hU.rowx lu hr3
        have fin : ∀ (H2 : Hp), Same H1 H2 → (∀ (σ : L2.St), σ = [some (.ref t), some (.int (i : Nat)), some (.int (i + j : Nat)), some (.ref l), some (.ref r), some (oK (kindDue U (i : Nat) (i + j : Nat)))] → True) := fun _ _ _ _ => trivial
        by_cases c : ((i : Nat) : Int) = ((i + j : Nat) : Int)
        · refine iteT' (decide_eq_true c) ?_
          walk_at "rd"
          refine ⟨l, _, rfl, xl, fun H2 S2 => ?_⟩
          have ek : rowDue (rowI U (i : Nat) (i + j : Nat)) = kindDue U (i : Nat) (i + j : Nat) := by unfold kindDue; rw [if_pos c]
          rw [ek]
          walk_at "lf_end"
        · refine iteF' (decide_eq_false c) ?_
          walk_at "rd"
          refine ⟨l, r, _, _, rfl, xl, xr, fun H2 S2 => ?_⟩
          have ek : sidesDue (rowI U (i : Nat) (i + j : Nat)) (rowI U (i + j : Nat) (i : Nat)) = kindDue U (i : Nat) (i + j : Nat) := by unfold kindDue; rw [if_neg c]
          rw [ek]
          walk_at "lf_end"
      · obtain ⟨⟨o2, o3, o4, o5, rfl⟩, S, inv⟩ := pv
        rw [show offs i + (4 - i) = offs (i + 1) from offs_next ⟨i, hi⟩] at inv
        exact ⟨⟨_, _, _, _, _, rfl⟩, S, inv⟩
    · obtain ⟨⟨o1, o2, o3, o4, o5, rfl⟩, S, inv⟩ := pv
      walk_at "rd"
      refine hQ H' .non S ?_
      rw [← inv]
      rfl
end
end K10

namespace K10
open PySem PySem.Spec PyProof.Rows L2 KX
local macro_rules | `(tactic| walk_at "rd1") => `(tactic| first
  | with_reducible refine rd_seq ?_
  | with_reducible refine rd_for ?_
  | with_reducible refine rd_lc ?_
  | with_reducible refine rd_asg ?_
  | ((with_reducible refine' rd_var ?rdv ?_); (case rdv => exact rfl))
  | with_reducible refine rd_c ?_
  | with_reducible refine rd_op ?_
  | with_reducible refine rd_un ?_
  | with_reducible refine rd_cons ?_
  | with_reducible refine rd_nil ?_
  | with_reducible refine rd_call ?_
  | with_reducible refine rd_cb ?_
  | with_reducible refine rd_tB ?_
  | with_reducible refine rd_test ?_
  | with_reducible refine rd_bl ?_
  | with_reducible refine rd_rI0 ?_
  | with_reducible refine rd_eqI ?_
  | with_reducible refine rd_neI ?_
  | with_reducible refine rd_rU ?_
  | with_reducible refine rd_name ?_
  | with_reducible refine rd_ifs ?_
  | with_reducible refine rd_and ?_
  | with_reducible refine rd_or ?_
  | with_reducible refine rd_not ?_
  | with_reducible refine rd_yes ?_
  | with_reducible refine rd_andV ?_
  | with_reducible refine rd_orV ?_
  | with_reducible refine rd_notV ?_
  | with_reducible refine rd_if ?_
  | with_reducible refine rd_isN ?_
  | with_reducible refine rd_iT ?_
  | with_reducible refine rd_iF ?_
  | with_reducible refine rd_ret ?_
  | with_reducible refine rd_retN ?_
  | with_reducible refine rd_drop ?_
  | with_reducible refine rd_next ?_
  | with_reducible refine rd_cont ?_
  | with_reducible refine rd_brk ?_
  | with_reducible refine rd_nx ?_
  | with_reducible refine rd_rt ?_
  | with_reducible refine rd_ct ?_
  | with_reducible refine rd_bk ?_
  | with_reducible refine rd_par ?_
  | with_reducible refine rd_par3 ?_
  | with_reducible refine rd_par2 ?_
  | with_reducible refine rd_par33 ?_
  | with_reducible refine rd_gcons ?_
  | with_reducible refine rd_gnil ?_
  | with_reducible refine rd_sub ?_
  | with_reducible refine rd_tup ?_
  | with_reducible refine rd_lst ?_
  | ((with_reducible refine rd_tupT ?hl ?_); (case hl => exact Nat.le_of_ble_eq_true rfl))
  | ((with_reducible refine rd_lstT ?hl ?_); (case hl => exact Nat.le_of_ble_eq_true rfl))
  | with_reducible refine rd_bm ?_
  | with_reducible refine rd_bm0 ?_
  | with_reducible refine rd_sl ?_
  | with_reducible refine rd_noP ?_
  | with_reducible refine rd_part ?_
  | with_reducible refine rd_int ?_
  | with_reducible refine rd_int1 ?_
  | with_reducible refine rd_fld ?_
  | with_reducible refine rd_then ?_
  | with_reducible refine rd_raise ?_
  | with_reducible refine rd_one ?_
  | with_reducible refine rd_sfld ?_
  | with_reducible refine rd_ilist ?_
  | with_reducible refine rd_itup ?_
  | with_reducible refine rd_rng1 ?_
  | with_reducible refine rd_enum ?_
  | with_reducible refine rd_enumT ?_)
local macro_rules | `(tactic| walk_at "rd") => `(tactic| repeat (walk_at "rd1"))
theorem kin_bl {K : PySem.W.Frag} {H : Hp} (b : Bool) : Kin K H (.bl b) none := .oth (b1 := true) (b2 := true) (.base (.bl b)) (by decide +kernel) (by decide +kernel) rfl
theorem kin_str {K : PySem.W.Frag} {H : Hp} (x : Str) : Kin K H (.str x) none := .oth (b1 := false) (b2 := false) (.base (.str x)) (by decide +kernel) (by decide +kernel) rfl
theorem kin_non {K : PySem.W.Frag} {H : Hp} : Kin K H .non none := .oth (b1 := false) (b2 := false) (.base .non) (by decide +kernel) (by decide +kernel) rfl
theorem kin_tup {K : PySem.W.Frag} {H : Hp} {a : Addr} {xs : List V} (h : H a = some (.tup xs)) : Kin K H (.ref a) none := .oth (b1 := false) (b2 := false) (.base (.tup h)) (by decide +kernel) (by decide +kernel) rfl
theorem AskX.same {K : PySem.W.Frag} {H H' : Hp} {U : PlanI} {y : V} {c : Bool} (h : AskX K H U y c) (s : Same H H') : AskX K H' U y c := by
  cases h with
  | oth t h => exact .oth (tyx_same t s) h
  | len h n => exact .len (h.same s) n
  | bad h n k b => exact .bad (h.same s) n (kins_same k s) b
  | num h a0 b0 hk => exact .num (h.same s) a0 b0 hk
/-- values that tell no fault of any plan -/
def Asks (K : PySem.W.Frag) (H : Hp) (l : List V) : Prop := ∀ z ∈ l, ∀ U, AskX K H U z false
theorem Asks.same {K : PySem.W.Frag} {H H' : Hp} {l : List V} (h : Asks K H l) (s : Same H H') : Asks K H' l := fun z hz U => (h z hz U).same s
theorem Asks.snoc {K : PySem.W.Frag} {H H' : Hp} {l : List V} (h : Asks K H l) (s : Same H H') {y : V} (hy : ∀ U, AskX K H' U y false) : Asks K H' (l ++ [y]) := fun z hz U => by
  rcases List.mem_append.mp hz with e | e
  · exact (h z e U).same s
  · rw [List.mem_singleton.mp e]; exact hy U
theorem ask_lst {K : PySem.W.Frag} {H : Hp} {a : Addr} {xs : List V} (h : H a = some (.lst xs)) (U : PlanI) : AskX K H U (.ref a) false := .oth (.base (.lst h)) (by decide +kernel)
theorem ask_bad {K : PySem.W.Frag} {H : Hp} {t : Addr} {x y z : V} {o1 o2 o3 : Option Int} (h : H t = some (.tup [x, y, z])) (k1 : Kin K H x o1) (k2 : Kin K H y o2) (k3 : Kin K H z o3) (b : (numB o1 && (numB o2 && numB o3)) = false) (U : PlanI) : AskX K H U (.ref t) false :=
  .bad (Tup.of h) rfl (.cons k1 (.cons k2 (.cons k3 .nil))) (by show (numB o1 && (numB o2 && (numB o3 && true))) = false; rw [Bool.and_true]; exact b)
theorem bad1 {b c : Bool} : (numB none && (b && c)) = false := rfl
theorem bad3 {b c : Bool} : (b && (c && numB none)) = false := by
  show (b && (c && false)) = false
  rw [Bool.and_false, Bool.and_false]
theorem bad3' {b c : Bool} : (b && (c && numB (some (-1)))) = false := by
  have : numB (some (-1)) = false := by decide
  rw [this, Bool.and_false, Bool.and_false]
theorem ask_num {K : PySem.W.Frag} {H : Hp} {t : Addr} {a b : Int} {k : Nat} (h : H t = some (.tup [.int a, .int b, .int (k : Nat)])) (a0 : 0 ≤ a) (b0 : 0 ≤ b) (hk : k ≤ 10000) (n : ¬ (a ≤ b ∧ b < 4)) (U : PlanI) : AskX K H U (.ref t) false := by
  have e : isPF U a b k = false := by
    unfold isPF
    have : (decide (a ≤ b) && decide (b < 4)) = false := by
      by_cases c : a ≤ b
      · rw [decide_eq_false (p := b < 4) (fun d => n ⟨c, d⟩), Bool.and_false]
      · rw [decide_eq_false c, Bool.false_and]
    rw [this, Bool.false_and]
  rw [← e]
  exact .num (Tup.of h) a0 b0 hk
def spBent (K : PySem.W.Frag) : L2.Sp := fun vs H Q _ => ∃ (x y : V) (o : Option (Int × Int × Nat)), vs = [x, y] ∧ FaultAt H y o ∧ (∀ a b k, o = some (a, b, k) → 0 ≤ a ∧ a ≤ b ∧ b < 4 ∧ k ≤ 1000) ∧
  ∀ H' t ys, Same H H' → H' t = some (.lst ys) → ys.length ≤ 10 → Asks K H' ys → Q (.ref t) H'
set_option hygiene false in
local macro_rules | `(tactic| walk_at "be_end") => `(tactic| (
  walk_at "rd"
  intro z5 G5 m5 R5 f5
  walk_at "rd"
  intro y5 H5 n5 S5 e5
  have A5 := A4.snoc (R5.trans S5) fun U => ask_bad e5 (.int _) (.int _) (kin_tup (S5 _ _ f5)) bad3 U
  walk_at "rd"
  intro y6 H6 n6 S6 e6
  have A6 := A5.snoc S6 fun U => .len (Tup.of e6) (by simp)
  walk_at "rd"
  intro y7 H7 n7 S7 e7
  have A7 := A6.snoc S7 fun U => ask_bad e7 (.int _) (.int _) (kin_bl _) bad3 U
  walk_at "rd"
  intro z8 G8 m8 R8 f8
  walk_at "rd"
  intro y8 H8 n8 S8 e8
  have A8 := A7.snoc (R8.trans S8) fun U => .len (Tup.of e8) (by simp)
  walk_at "rd"
  intro t Ht nt St et
  refine hQ Ht t _ (S0.trans ((((((((S1.trans S2).trans S3).trans S4).trans (R5.trans S5)).trans S6).trans S7).trans (R8.trans S8)).trans St)) et (by simp) (A8.same St)))
set_option hygiene false in
local macro_rules | `(tactic| walk_at "be_rest") => `(tactic| (
  walk_at "rd"
  by_cases c : a = 0
  · refine iteT' (decide_eq_true c) ?_
    walk_at "rd"
    intro y1 H1 n1 S1 e1
    have A1 := (Asks.snoc (K := K) (H := H0) (l := []) (fun z hz => by cases hz) S1 fun U => ask_lst e1 U)
    walk_at "rd"
    intro y2 H2 n2 S2 e2
    have A2 := A1.snoc S2 fun U => .len (Tup.of e2) (by simp)
    walk_at "rd"
    intro y3 H3 n3 S3 e3
    have A3 := A2.snoc S3 fun U => .len (Tup.of e3) (by simp)
    walk_at "rd"
    intro y4 H4 n4 S4 e4
    have A4 := A3.snoc S4 fun U => ask_bad e4 (.int _) (.int _) (.int _) bad3' U
    walk_at "rd"
    intro y5 H5 n5 S5 e5
    have A5 := A4.snoc S5 fun U => ask_bad e5 (.int _) (.int _) kin_non bad3 U
    have A6 := A5.snoc (Same.refl _) (y := .non) fun U => .oth (.base .non) (by decide +kernel)
    walk_at "rd"
    intro y7 H7 n7 S7 e7
    have A7 := A6.snoc S7 fun U => ask_bad e7 (kin_bl _) (.int _) (.int _) bad1 U
    have A8 := A7.snoc (Same.refl _) (y := .str "abc") fun U => .oth (.base (.str _)) (by decide +kernel)
    walk_at "rd"
    have lg : ((k : Nat) : Int).natAbs.log2 < 10 := PySem.Flt.log2_lt_of (by decide) (by omega : ((k : Nat) : Int).natAbs < 2 ^ 10)
    refine ⟨by omega, ?_⟩
    walk_at "rd"
    intro y9 H9 n9 S9 e9
    have A9 := A8.snoc S9 fun U => ask_bad e9 (.int _) (.int _) (kin_str _) bad3 U
    have A10 := A9.snoc (Same.refl _) (y := .int a) fun U => .oth (.base (.int _)) (by decide +kernel)
    walk_at "rd"
    intro t Ht nt St et
    refine hQ Ht t _ (S0.trans ((((((((S1.trans S2).trans S3).trans S4).trans S5).trans S7).trans S9)).trans St)) et (by simp) (A10.same St)
  · refine iteF' (decide_eq_false c) ?_
    walk_at "rd"
    intro y1 H1 n1 S1 e1
    have A1 := (Asks.snoc (K := K) (H := H0) (l := []) (fun z hz => by cases hz) S1 fun U => ask_lst e1 U)
    walk_at "rd"
    intro y2 H2 n2 S2 e2
    have A2 := A1.snoc S2 fun U => .len (Tup.of e2) (by simp)
    walk_at "rd"
    intro y3 H3 n3 S3 e3
    have A3 := A2.snoc S3 fun U => ask_num e3 (by omega) (by omega) (by omega) (by omega) U
    walk_at "rd"
    obtain ⟨bb, eb⟩ : ∃ bb : Bool, bb = decide (a < b) := ⟨_, rfl⟩
    rw [← eb]
    cases bb with
    | true =>
      have lt : a < b := of_decide_eq_true eb.symm
      refine rd_iT ?_
      walk_at "rd"
      intro y4 H4 n4 S4 e4
      have A4 := A3.snoc S4 fun U => ask_num e4 (by omega) (by omega) (by omega) (by omega) U
      walk_at "be_end"
    | false =>
      refine rd_iF ?_
      walk_at "rd"
      intro y4 H4 n4 S4 e4
      have A4 := A3.snoc S4 fun U => ask_bad e4 (.int _) (.int _) (.int _) bad3' U
      walk_at "be_end"))
section
variable {P : Program} {w : World} {K : PySem.W.Frag} {mg : Str → Option Value} {base : Heap} (T : TX K mg)
theorem G__law_bent : FnOk P w K mg base CX0 1 T.f__law_bent T.d__law_bent ["_law_deal", "_law_told"] (spBent K) := by
  refine T.F__law_bent.ok sc__law_bent (fun vs H Q E h => ?_) fun cdv A outer s H vs Q E hr h => ⟨_, (pss_cons (ps_asg (pe_ifExp (pt_cmp (pc_notN (pv 1))) (pv 1) (pe_tup (pa_cons pe_int (pa_cons pe_int (pa_cons pe_int pa_nil))))) (pg_tupK (K := K) (n := 3) (by rfl) (pgs_cons (pg_name (i := 2) sc__law_bent.nd rfl (.inl rfl)) (pgs_cons (pg_name (i := 3) sc__law_bent.nd rfl (.inl rfl)) (pgs_cons (pg_name (i := 4) sc__law_bent.nd rfl (.inl rfl)) pgs_nil))))) (pss_cons (ps_if (pt_cmpR op_eq (pv 2) pe_int (nomark _)) (pss_one (ps_ret (pe_lst (pa_cons (pe_lst (pa_cons (pv 2) (pa_cons (pv 3) (pa_cons (pv 4) pa_nil)))) (pa_cons (pe_tup (pa_cons (pv 2) (pa_cons (pv 3) pa_nil))) (pa_cons (pe_tup (pa_cons (pv 2) (pa_cons (pv 3) (pa_cons (pv 4) (pa_cons pe_int pa_nil))))) (pa_cons (pe_tup (pa_cons (pv 2) (pa_cons (pv 3) (pa_cons (pe_un un_neg pe_int) pa_nil)))) (pa_cons (pe_tup (pa_cons (pv 2) (pa_cons (pv 3) (pa_cons pe_non pa_nil)))) (pa_cons pe_non (pa_cons (pe_tup (pa_cons pe_bl (pa_cons (pv 3) (pa_cons (pv 4) pa_nil)))) (pa_cons pe_str (pa_cons (pe_tup (pa_cons (pv 2) (pa_cons (pv 3) (pa_cons (pe_callTy call_str_int (by rfl) T.n_str (by decide +kernel) (by exact (pa_cons (pv 4) pa_nil))) pa_nil)))) (pa_cons (pv 2) pa_nil))))))))))))) pss_nil) (pss_one (ps_ret (pe_lst (pa_cons (pe_lst (pa_cons (pv 2) (pa_cons (pv 3) (pa_cons (pv 4) pa_nil)))) (pa_cons (pe_tup (pa_cons (pv 2) (pa_cons (pv 3) (pa_cons (pv 4) (pa_cons (pv 4) pa_nil))))) (pa_cons (pe_tup (pa_cons (pv 2) (pa_cons pe_int (pa_cons (pv 4) pa_nil)))) (pa_cons (pe_ifExp (pt_cmpR op_lt (pv 2) (pv 3) (nomark _)) (pe_tup (pa_cons (pv 3) (pa_cons (pv 2) (pa_cons (pv 4) pa_nil)))) (pe_tup (pa_cons (pv 3) (pa_cons (pv 2) (pa_cons (pe_un un_neg pe_int) pa_nil))))) (pa_cons (pe_tup (pa_cons (pv 2) (pa_cons (pv 3) (pa_cons (pe_tup (pa_cons (pv 4) pa_nil)) pa_nil)))) (pa_cons (pe_tup pa_nil) (pa_cons (pe_tup (pa_cons (pv 2) (pa_cons (pv 3) (pa_cons pe_bl pa_nil)))) (pa_cons (pe_tup (pa_cons (pe_tup (pa_cons (pv 2) (pa_cons (pv 3) pa_nil))) (pa_cons (pv 4) pa_nil))) pa_nil))))))))))))), ?_⟩
  · obtain ⟨x, y, o, rfl, _⟩ := h
    rfl
  · obtain ⟨x, y, o, rfl, hy, ho, hQ⟩ := h
    walk_at "rd"
    refine rd_notN ?_
    walk_at "rd"
    cases o with
    | none =>
      have hy : y = .non := hy
      subst hy
      refine iteF' (by show (!decide (V.non = V.non)) = false; simp) ?_
      walk_at "rd"
      intro t0 H0 n0 S0 e0
      refine rd_gtup (Tup.of e0) rfl ?_
      obtain ⟨a, ea⟩ : ∃ a : Int, a = 0 := ⟨_, rfl⟩
      obtain ⟨b, eb⟩ : ∃ b : Int, b = 0 := ⟨_, rfl⟩
      obtain ⟨k, ek⟩ : ∃ k : Nat, k = 1 := ⟨_, rfl⟩
      obtain ⟨a0, ab, b4, k1⟩ : 0 ≤ a ∧ a ≤ b ∧ b < 4 ∧ k ≤ 1000 := by omega
      have eg : ([V.int 0, V.int 0, V.int 1] : List V) = [V.int a, V.int b, V.int (k : Nat)] := by rw [ea, eb, ek]; rfl
      rw [eg]
      clear ea eb ek eg
      walk_at "be_rest"
    | some z =>
      obtain ⟨a, b, k⟩ := z
      obtain ⟨t0, rfl, e0⟩ := hy
      obtain ⟨a0, ab, b4, k1⟩ := ho a b k rfl
      refine iteT' (by show (!decide (V.ref t0 = V.non)) = true; simp) ?_
      walk_at "rd"
      refine rd_gtup e0 rfl ?_
      obtain ⟨H0, eH⟩ : ∃ H0, H0 = H := ⟨_, rfl⟩
      have S0 : Same H H0 := by rw [eH]; exact Same.refl _
      rw [← eH]
      walk_at "be_rest"
end
end K10

namespace K10
open PySem PySem.Spec PyProof.Rows L2 KX
local macro_rules | `(tactic| walk_at "rd1") => `(tactic| first
  | with_reducible refine rd_seq ?_
  | with_reducible refine rd_for ?_
  | with_reducible refine rd_lc ?_
  | with_reducible refine rd_asg ?_
  | ((with_reducible refine' rd_var ?rdv ?_); (case rdv => exact rfl))
  | with_reducible refine rd_c ?_
  | with_reducible refine rd_op ?_
  | with_reducible refine rd_un ?_
  | with_reducible refine rd_cons ?_
  | with_reducible refine rd_nil ?_
  | with_reducible refine rd_call ?_
  | with_reducible refine rd_cb ?_
  | with_reducible refine rd_tB ?_
  | with_reducible refine rd_test ?_
  | with_reducible refine rd_bl ?_
  | with_reducible refine rd_rI0 ?_
  | with_reducible refine rd_eqI ?_
  | with_reducible refine rd_neI ?_
  | with_reducible refine rd_rU ?_
  | with_reducible refine rd_name ?_
  | with_reducible refine rd_ifs ?_
  | with_reducible refine rd_and ?_
  | with_reducible refine rd_or ?_
  | with_reducible refine rd_not ?_
  | with_reducible refine rd_yes ?_
  | with_reducible refine rd_andV ?_
  | with_reducible refine rd_orV ?_
  | with_reducible refine rd_notV ?_
  | with_reducible refine rd_if ?_
  | with_reducible refine rd_isN ?_
  | with_reducible refine rd_iT ?_
  | with_reducible refine rd_iF ?_
  | with_reducible refine rd_ret ?_
  | with_reducible refine rd_retN ?_
  | with_reducible refine rd_drop ?_
  | with_reducible refine rd_next ?_
  | with_reducible refine rd_cont ?_
  | with_reducible refine rd_brk ?_
  | with_reducible refine rd_nx ?_
  | with_reducible refine rd_rt ?_
  | with_reducible refine rd_ct ?_
  | with_reducible refine rd_bk ?_
  | with_reducible refine rd_par ?_
  | with_reducible refine rd_par3 ?_
  | with_reducible refine rd_par2 ?_
  | with_reducible refine rd_par33 ?_
  | with_reducible refine rd_gcons ?_
  | with_reducible refine rd_gnil ?_
  | with_reducible refine rd_sub ?_
  | with_reducible refine rd_tup ?_
  | with_reducible refine rd_lst ?_
  | ((with_reducible refine rd_tupT ?hl ?_); (case hl => exact Nat.le_of_ble_eq_true rfl))
  | ((with_reducible refine rd_lstT ?hl ?_); (case hl => exact Nat.le_of_ble_eq_true rfl))
  | with_reducible refine rd_bm ?_
  | with_reducible refine rd_bm0 ?_
  | with_reducible refine rd_sl ?_
  | with_reducible refine rd_noP ?_
  | with_reducible refine rd_part ?_
  | with_reducible refine rd_int ?_
  | with_reducible refine rd_int1 ?_
  | with_reducible refine rd_fld ?_
  | with_reducible refine rd_then ?_
  | with_reducible refine rd_raise ?_
  | with_reducible refine rd_one ?_
  | with_reducible refine rd_sfld ?_
  | with_reducible refine rd_ilist ?_
  | with_reducible refine rd_itup ?_
  | with_reducible refine rd_rng1 ?_
  | with_reducible refine rd_enum ?_
  | with_reducible refine rd_enumT ?_)
local macro_rules | `(tactic| walk_at "rd") => `(tactic| repeat (walk_at "rd1"))
structure Rep (d : PyData) : Prop where
  s : d.showable = true
  n : d.hasDict = false
  h : d.depth ≤ 64
  l : d.shown.length ≤ sizeLine
structure Sm (d : PyData) (w k : Nat) : Prop where
  s : d.showable = true
  n : d.hasDict = false
  l : d.leavesShort 13 = true
  w : d.weight ≤ w
  h : d.depth ≤ k
structure SmA (ds : List PyData) (w k : Nat) : Prop where
  s : PyData.showableAll ds = true
  n : PyData.hasDictAll ds = false
  l : PyData.leavesShortAll 13 ds = true
  w : PyData.weightAll ds ≤ w * ds.length
  h : PyData.depthAll ds ≤ k
theorem Sm.rep {d : PyData} {w k : Nat} (h : Sm d w k) (hw : w ≤ 1000000) (hk : k ≤ 64) : Rep d := by
  refine ⟨h.s, h.n, Nat.le_trans h.h hk, ?_⟩
  have q := PyData.shown_le 13 (by decide) d h.l
  have w' := h.w
  have z : sizeLine = 16777216 := by decide
  omega
theorem sm_int {i : Int} (h0 : 0 ≤ i) (h1 : i < 1000) : Sm (.int i) 11 0 := by
  have hl : i.natAbs.log2 < 10 := PySem.Flt.log2_lt_of (by decide) (by omega : i.natAbs < 2 ^ 10)
  refine ⟨decide_eq_true (by omega), rfl, ?_, ?_, Nat.le_refl _⟩
  · exact decide_eq_true (PyData.shown_int_le (by omega))
  · show (if i == 0 then 0 else i.natAbs.log2 + 1) ≤ 11
    split <;> omega
theorem SmA.nil {w k : Nat} : SmA [] w k := ⟨rfl, rfl, rfl, Nat.zero_le _, Nat.zero_le _⟩
theorem SmA.cons {d : PyData} {ds : List PyData} {w k : Nat} (a : Sm d w k) (b : SmA ds (w + 1) k) : SmA (d :: ds) (w + 1) k := by
  refine ⟨?_, ?_, ?_, ?_, ?_⟩
  · show (d.showable && PyData.showableAll ds) = true
    rw [a.s, b.s]; rfl
  · show (d.hasDict || PyData.hasDictAll ds) = false
    rw [a.n, b.n]; rfl
  · show (d.leavesShort 13 && PyData.leavesShortAll 13 ds) = true
    rw [a.l, b.l]; rfl
  · show d.weight + 1 + PyData.weightAll ds ≤ (w + 1) * (ds.length + 1)
    have := a.w; have := b.w
    rw [Nat.mul_add]; omega
  · show max d.depth (PyData.depthAll ds) ≤ k
    have := a.h; have := b.h
    omega
theorem SmA.tuple {ds : List PyData} {w k : Nat} (a : SmA ds w k) : Sm (.tuple ds) (w * ds.length) (k + 1) :=
  ⟨a.s, a.n, a.l, a.w, Nat.add_le_add_right a.h 1⟩
theorem Sm.mono {d : PyData} {w k w' k' : Nat} (h : Sm d w k) (hw : w ≤ w') (hk : k ≤ k') : Sm d w' k' := ⟨h.s, h.n, h.l, Nat.le_trans h.w hw, Nat.le_trans h.h hk⟩
theorem rd_callK {m : Nat} {sp : L2.Sp} {gV : List V → List V → List V} {E : XK} {tk : TA} {σ : L2.St} {H : Hp} {Q : VK} (h : tk σ H fun zs H2 => zs.length = m ∧ sp (gV [] zs) H2 Q E) : KX.tCallK m sp gV E tk σ H Q := h
theorem rep_bool (b : Bool) : Rep (.bool b) := by cases b <;> exact ⟨rfl, rfl, by decide, by decide⟩
theorem rowT_dp {K : PySem.W.Frag} {H : Hp} {q : Addr} {ns : List Int} (h : RowT H q ns) : Dp K H (.ref q) (.tuple (ns.map PyData.int)) := .tup h.sq (dA_ints K H ns)
theorem kb_is_plan_fault {K : PySem.W.Frag} {mg : Str → Option Value} (T : TX K mg) : KBn K T.d_is_plan_fault ["plan", "value"] 0 ["value", "plan"] (fun _ ws => match ws with | [v0, v1] => [v1, v0] | ws => ws) (fun _ ws => match ws with | [v0, v1] => [v1, v0] | ws => ws) := by
  obtain ⟨oc, od, kV, doc, pm, an, cdv, ct, osl, e, lk, hcd⟩ := T.F_is_plan_fault.ex
  rw [e]
  refine ⟨fun s us ws _ h0 h2 => ?_, fun {vs us zs ws} _ r => ?_⟩
  · match us, ws, h0, h2 with
    | [], [v0, v1], _, _ => exact .of_eq rfl
  · exact match r with
      | .nil => .nil
      | .cons a0 (.nil) => .cons a0 (.nil)
      | .cons a0 (.cons a1 (.nil)) => .cons a1 (.cons a0 (.nil))
      | .cons a0 (.cons a1 (.cons a2 (r))) => .cons a0 (.cons a1 (.cons a2 (r)))
theorem kb_kind_rows {K : PySem.W.Frag} {mg : Str → Option Value} (T : TX K mg) : KBn K T.d_kind_rows ["plan", "a", "b"] 0 ["b", "a", "plan"] (fun _ ws => match ws with | [v0, v1, v2] => [v2, v1, v0] | ws => ws) (fun _ ws => match ws with | [v0, v1, v2] => [v2, v1, v0] | ws => ws) := by
  obtain ⟨oc, od, kV, doc, pm, an, cdv, ct, osl, e, lk, hcd⟩ := T.F_kind_rows.ex
  rw [e]
  refine ⟨fun s us ws _ h0 h2 => ?_, fun {vs us zs ws} _ r => ?_⟩
  · match us, ws, h0, h2 with
    | [], [v0, v1, v2], _, _ => exact .of_eq rfl
  · exact match r with
      | .nil => .nil
      | .cons a0 (.nil) => .cons a0 (.nil)
      | .cons a0 (.cons a1 (.nil)) => .cons a0 (.cons a1 (.nil))
      | .cons a0 (.cons a1 (.cons a2 (.nil))) => .cons a2 (.cons a1 (.cons a0 (.nil)))
      | .cons a0 (.cons a1 (.cons a2 (.cons a3 (r)))) => .cons a0 (.cons a1 (.cons a2 (.cons a3 (r))))
theorem pe_revLK {X : Cx} {K : PySem.W.Frag} {e : Expr} {te : TE} {k : Nat} {p1 p2 p3 pos : Pos} (he : PE X e te) (hK : X.K = K := by rfl) : PE X (.Subscript e (.Slice none none (some (.UnaryOp .USub (.Constant (.int 1) k p1) p2)) p3) pos) (tRevL K te) := by subst hK; exact pe_revL he
theorem rd_revL {K : PySem.W.Frag} {te : TE} {σ : L2.St} {H : Hp} {Q : VK} (h : te σ H fun x H1 => ∃ a xs, x = .ref a ∧ SqL K H1 a xs ∧ ∀ p, H1 p = none → Q (.ref p) (upd H1 p (.lst xs.reverse))) : tRevL K te σ H Q := h
theorem sm_nums : ∀ {r : List Int}, (∀ x ∈ r, 0 ≤ x ∧ x < 1000) → SmA (r.map PyData.int) 12 0
  | [], _ => .nil
  | x :: r, h => .cons (sm_int (h x (by simp)).1 (h x (by simp)).2) (sm_nums fun y hy => h y (by simp [hy]))
/-! what is told: data -/
def dF : Option (Int × Int × Nat) → PyData
  | none => .none
  | some (a, b, k) => .tuple [.int a, .int b, .int (k : Nat)]
theorem dp_fault {K : PySem.W.Frag} {H : Hp} {y : V} {o : Option (Int × Int × Nat)} (h : FaultAt H y o) : Dp K H y (dF o) := by
  cases o with
  | none =>
    have h : y = .non := h
    rw [h]
    exact .non
  | some z =>
    obtain ⟨a, b, k⟩ := z
    obtain ⟨t, rfl, h⟩ := h
    exact .tup h.sq (.cons (.int _) (.cons (.int _) (.cons (.int _) .nil)))
/-- a fault within bounds -/
def OkF (o : Option (Int × Int × Nat)) : Prop := ∀ a b k, o = some (a, b, k) → 0 ≤ a ∧ a ≤ b ∧ b < 4 ∧ k < 1000
theorem rep_fault {o : Option (Int × Int × Nat)} (h : OkF o) : Rep (dF o) := by
  cases o with
  | none => exact ⟨rfl, rfl, by decide, by decide⟩
  | some z =>
    obtain ⟨a, b, k⟩ := z
    obtain ⟨h1, h2, h3, h4⟩ := h a b k rfl
    have s := (SmA.cons (sm_int h1 (by omega)) (SmA.cons (sm_int (i := b) (by omega) (by omega)) (SmA.cons (sm_int (i := ((k : Nat) : Int)) (by omega) (by omega)) (SmA.nil (w := 12) (k := 0))))).tuple
    exact s.rep (by show 12 * 3 ≤ _; decide) (by decide)
def dRows (l r : List Int) : PyData := .tuple [.tuple (l.map PyData.int), .tuple (r.map PyData.int)]
theorem dp_rows {K : PySem.W.Frag} {H : Hp} {t l r : Addr} {a b : List Int} (h : H t = some (.tup [.ref l, .ref r])) (hl : RowT H l a) (hr : RowT H r b) : Dp K H (.ref t) (dRows a b) :=
  .tup (SqT.of h) (.cons (rowT_dp hl) (.cons (rowT_dp hr) .nil))
theorem rep_rows {a b : List Int} (la : a.length ≤ 1000) (lb : b.length ≤ 1000) (ha : ∀ x ∈ a, 0 ≤ x ∧ x < 1000) (hb : ∀ x ∈ b, 0 ≤ x ∧ x < 1000) : Rep (dRows a b) := by
  have s1 := (sm_nums ha).tuple
  have s2 := (sm_nums hb).tuple
  rw [List.length_map] at s1 s2
  have c := (SmA.cons (s1.mono (w' := 12000) (k' := 1) (by omega) (Nat.le_refl _)) (SmA.cons (s2.mono (w' := 12000) (k' := 1) (by omega) (Nat.le_refl _)) (SmA.nil (w := 12001) (k := 1)))).tuple
  exact c.rep (by show 12001 * 2 ≤ _; decide) (by decide)
def dW (w : Int × List Int) : PyData := .tuple [.int w.1, .tuple (w.2.map PyData.int)]
theorem dp_view {K : PySem.W.Frag} {H : Hp} {v : Addr} {w : Int × List Int} (h : ViewF H v w) : Dp K H (.ref v) (dW w) := by
  obtain ⟨r, h1, h2⟩ := h
  exact .tup h1.sq (.cons (.int _) (.cons (rowT_dp h2.tup) .nil))
theorem dp_views {K : PySem.W.Frag} {H : Hp} {vs : List Addr} {U : PlanI} (h : Paired (ViewF H) vs U) : DpAll K H (vs.map V.ref) (U.map dW) := by
  induction h with
  | nil => exact .nil
  | cons a _ ih => exact .cons (dp_view a) ih
theorem dW_lay : ∀ U : PlanI, PyData.canLayAll0 (U.map dW) = true
  | [] => rfl
  | w :: U => by
    show ((true && (PyData.canLayAll0 (w.2.map PyData.int) && true)) && PyData.canLayAll0 (U.map dW)) = true
    rw [dA_lay, dW_lay U]; rfl
theorem dW_dep : ∀ U : PlanI, PyData.depthAll (U.map dW) ≤ 3
  | [] => by decide
  | w :: U => by
    have h1 := dA_dep w.2
    have h2 := dW_dep U
    have e : PyData.depth (dW w) = max 0 (max (PyData.depthAll (w.2.map PyData.int) + 1) 0) + 1 := rfl
    show max (PyData.depth (dW w)) (PyData.depthAll (U.map dW)) ≤ 3
    rw [e]; omega
theorem dW_sh (U : PlanI) : SeqAt.shaped (.list (U.map dW)) = true := by
  have h := dW_dep U
  have h1 : PyData.depth (.list (U.map dW)) = PyData.depthAll (U.map dW) + 1 := rfl
  unfold SeqAt.shaped
  have h2 : PyData.canLay0 (.list (U.map dW)) = PyData.canLayAll0 (U.map dW) := rfl
  rw [h2, dW_lay, h1, Bool.true_and]
  exact decide_eq_true (by omega)
theorem dW_eqv : ∀ U : PlanI, PyData.eqvAll (U.map dW) (U.map dW) = true
  | [] => rfl
  | w :: U => by
    show (((w.1 == w.1) && (PyData.eqvAll (w.2.map PyData.int) (w.2.map PyData.int) && true)) && PyData.eqvAll (U.map dW) (U.map dW)) = true
    rw [dA_eqv, dW_eqv U, decide_eq_true rfl]
    simp
/-! what stays -/
theorem sqx_fix {K : PySem.W.Frag} {H H' : Hp} {p q : Addr} {x : V} {xs : List V} (f : Fix p q H H') (d : Deal H p q) (n : ∀ a, x = .ref a → a ≠ p ∧ a ≠ q) (h : SqX K H x (some xs)) : SqX K H' x (some xs) := by
  cases h with
  | lst h => exact .lst (f _ _ (n _ rfl).1 (n _ rfl).2 h)
  | tup h => exact .tup (tup_fix f d h)
theorem fault_fix {H H' : Hp} {p q : Addr} {y : V} {o : Option (Int × Int × Nat)} (f : Fix p q H H') (d : Deal H p q) (h : FaultAt H y o) : FaultAt H' y o := by
  cases o with
  | none => exact h
  | some z =>
    obtain ⟨a, b, k⟩ := z
    obtain ⟨t, e, h⟩ := h
    exact ⟨t, e, tup_fix f d h⟩
theorem paired_rev {α β : Type} {F : α → β → Prop} {l : List α} {m : List β} (h : Paired F l m) : Paired F l.reverse m.reverse := by
  induction h with
  | nil => exact .nil
  | cons a _ ih => rw [List.reverse_cons, List.reverse_cons]; exact paired_append ih (.cons a .nil)
/-- the plan, and what is given for it -/
structure Gv (K : PySem.W.Frag) (p q t : Addr) (x : V) (vs : List Addr) (U : PlanI) (H : Hp) : Prop where
  d : Deal H p q
  ht : H t = some (.lst (vs.map V.ref))
  pv : Paired (ViewF H) vs U
  sx : SqX K H x (some (vs.map V.ref))
  tp : t ≠ p
  tq : t ≠ q
  xn : ∀ a, x = .ref a → a ≠ p ∧ a ≠ q
  ln : ∀ v ∈ U, v.2.length ≤ 60
  u1 : 1 ≤ U.length
  u6 : U.length ≤ 6
theorem Gv.same {K : PySem.W.Frag} {p q t : Addr} {x : V} {vs : List Addr} {U : PlanI} {H H' : Hp} (g : Gv K p q t x vs U H) (s : Same H H') : Gv K p q t x vs U H' :=
  ⟨g.d.same s, s _ _ g.ht, views_same g.pv s, sqx_same g.sx s, g.tp, g.tq, g.xn, g.ln, g.u1, g.u6⟩
theorem Gv.fix {K : PySem.W.Frag} {p q t : Addr} {x : V} {vs : List Addr} {U : PlanI} {H H' : Hp} (g : Gv K p q t x vs U H) (d : Deal H' p q) (f : Fix p q H H') : Gv K p q t x vs U H' :=
  ⟨d, f _ _ g.tp g.tq g.ht, paired_mono g.pv fun _ _ z => viewF_fix f g.d z, sqx_fix f g.d g.xn g.sx, g.tp, g.tq, g.xn, g.ln, g.u1, g.u6⟩
theorem Gv.vwl {K : PySem.W.Frag} {p q t : Addr} {x : V} {vs : List Addr} {U : PlanI} {H : Hp} (g : Gv K p q t x vs U H) : VwL H t U := ⟨vs, g.ht, g.pv, g.ln⟩
theorem Gv.plan {K : PySem.W.Frag} {p q t : Addr} {x : V} {vs : List Addr} {U : PlanI} {H : Hp} (g : Gv K p q t x vs U H) : PlanAt K H x U :=
  ⟨⟨vs, g.sx, g.pv⟩, by have := g.u6; omega, fun v hv => by have := g.ln v hv; omega⟩
theorem Gv.row {K : PySem.W.Frag} {p q t : Addr} {x : V} {vs : List Addr} {U : PlanI} {H : Hp} (g : Gv K p q t x vs U H) (a b : Int) : (rowI U a b).length ≤ 6 ∧ ∀ z ∈ rowI U a b, 0 ≤ z ∧ z ≤ 60 :=
  ⟨Nat.le_trans (rowI_len U a b) g.u6, fun z hz => ⟨rowI_nn U a b z hz, rowI_le (d := 60) g.ln a b z hz⟩⟩
theorem bars_len {l r : List Int} {one : Bool} {k : Nat} (h : barsI l r one k = true) : k ≤ l.length := by
  unfold barsI at h
  rw [Bool.and_eq_true, decide_eq_true_eq] at h
  exact h.1
theorem Gv.okf {K : PySem.W.Frag} {p q t : Addr} {x : V} {vs : List Addr} {U : PlanI} {H : Hp} (g : Gv K p q t x vs U H) : OkF (faultI U) := fun a b k e => by
  obtain ⟨⟨h1, h2, h3⟩, h4⟩ := fault_right e
  have h5 := bars_len h4
  have h6 := (g.row a b).1
  omega
theorem Gv.rep {K : PySem.W.Frag} {p q t : Addr} {x : V} {vs : List Addr} {U : PlanI} {H : Hp} (g : Gv K p q t x vs U H) (a b c d : Int) : Rep (dRows (rowI U a b) (rowI U c d)) := by
  obtain ⟨h1, h2⟩ := g.row a b
  obtain ⟨h3, h4⟩ := g.row c d
  exact rep_rows (by omega) (by omega) (fun z hz => by have := h2 z hz; omega) (fun z hz => by have := h4 z hz; omega)
theorem rd_notB {a b : Bool} {H : Hp} {Q : VK} (h : Q (.bl (!decide (a = b))) H) : rNotB (.bl a) (.bl b) H Q := ⟨a, b, rfl, rfl, h⟩
theorem sqx_or {K : PySem.W.Frag} {H : Hp} {x : V} {xs : List V} (h : SqX K H x (some xs)) : ∃ a, x = .ref a ∧ (SqL K H a xs ∨ SqT K H a xs) := by
  cases h with
  | lst h => exact ⟨_, rfl, .inl (SqL.of h)⟩
  | tup h => exact ⟨_, rfl, .inr h.sq⟩
theorem Gv.back {K : PySem.W.Frag} {p q t b : Addr} {x : V} {vs : List Addr} {U : PlanI} {H : Hp} (g : Gv K p q t x vs U H) (hb : H b = some (.lst (vs.map V.ref).reverse)) : VwL H b U.reverse ∧ PlanAt K H (.ref b) U.reverse := by
  rw [← List.map_reverse] at hb
  have pv := paired_rev g.pv
  have ln : ∀ v ∈ U.reverse, v.2.length ≤ 60 := fun v hv => g.ln v (List.mem_reverse.mp hv)
  have u6 := g.u6
  exact ⟨⟨vs.reverse, hb, pv, ln⟩, ⟨⟨vs.reverse, .lst hb, pv⟩, by rw [List.length_reverse]; omega, fun v hv => by have := ln v hv; omega⟩⟩
theorem Gv.repb {K : PySem.W.Frag} {p q t : Addr} {x : V} {vs : List Addr} {U : PlanI} {H : Hp} (g : Gv K p q t x vs U H) (a b c d : Int) : Rep (dRows (rowI U.reverse a b) (rowI U.reverse c d)) := by
  obtain ⟨h1, h2⟩ := g.row a b
  obtain ⟨h3, h4⟩ := g.row c d
  rw [rowI_rev, rowI_rev]
  exact rep_rows (by rw [List.length_reverse]; omega) (by rw [List.length_reverse]; omega) (fun z hz => by have := h2 z (List.mem_reverse.mp hz); omega) (fun z hz => by have := h4 z (List.mem_reverse.mp hz); omega)
set_option hygiene false in
local macro_rules | `(tactic| walk_at "ri_rest") => `(tactic| (
  walk_at "rd"
  refine ⟨.ref p, y, faultI U, rfl, hy, fun a b k e => (by have := g.okf a b k e; omega), fun H4 b4 ys S4 hb4 lys asks => ?_⟩
  have g4 := g.same S4
  have hy4 := hy.same S4
  refine ⟨b4, rfl, ⟨_, SqL.of hb4⟩, ?_⟩
  refine for_list (xs := ys) (fun j σ H' => (∃ o4 o5 o6 o7 o8 o9 o10, σ = [some (.ref p), some (.ref t), some x, some y, o4, o5, o6, o7, o8, o9, o10]) ∧ Same H4 H') ⟨⟨_, _, _, _, _, _, _, rfl⟩, Same.refl _⟩ (fun j σ H' _ pv => SqL.of (pv.2 _ _ hb4)) (fun j v σ H5 hv pv => ?_) (fun σ H5 pv => ?_)
  · obtain ⟨⟨o4, o5, o6, o7, o8, o9, o10, rfl⟩, S5⟩ := pv
    walk_at "rd"
    refine ⟨x, v, U, false, rfl, (g4.same S5).plan, (asks v (List.mem_of_getElem? hv) U).same S5, fun H6 S6 => ?_⟩
    walk_at "rd"
    refine rd_notB ?_
    walk_at "rd"
    refine iteF' (by decide) ?_
    walk_at "rd"
    exact ⟨⟨_, _, _, _, _, _, _, rfl⟩, S5.trans S6⟩
  · obtain ⟨⟨o4, o5, o6, o7, o8, o9, o10, rfl⟩, S5⟩ := pv
    have g5 := g4.same S5
    have hy5 := hy4.same S5
    clear g g4 hy4 S4 S5 asks
    walk_at "rd"
    refine rd_revL ?_
    walk_at "rd"
    refine ⟨t, _, rfl, SqL.of g5.ht, fun bk hbk => ?_⟩
    have S6 : Same H5 (upd H5 bk (.lst (qs.map V.ref).reverse)) := Same.fresh hbk
    have hb6 : upd H5 bk (.lst (qs.map V.ref).reverse) bk = some (.lst (qs.map V.ref).reverse) := upd_same
    generalize upd H5 bk (.lst (qs.map V.ref).reverse) = H6 at S6 hb6
    have g6 := g5.same S6
    have hy6 := hy5.same S6
    obtain ⟨bv6, bp6⟩ := g6.back hb6
    clear g5 hy5 S6
    walk_at "rd"
    refine ⟨.ref bk, U.reverse, rfl, bp6, fun H7 z S7 hz => ?_⟩
    rw [faultI_rev] at hz
    walk_at "rd"
    refine rd_repr (dp_fault hz) rf.s rf.n rf.h rf.l ?_
    walk_at "rd"
    refine rd_repr (dp_fault (hy6.same S7)) rf.s rf.n rf.h rf.l ?_
    refine rd_neS ?_
    walk_at "rd"
    refine iteF' (by simp) ?_
    walk_at "rd"
    refine rd_callK ?_
    walk_at "rd"
    refine ⟨rfl, .ref bk, 0, 1, U.reverse, rfl, bp6.same S7, fun H8 z2 l2 r2 S8 hz2 hl2 hr4 => ?_⟩
    have rr := g6.repb 0 1 1 0
    walk_at "rd"
    refine rd_repr (dp_rows hz2 hl2 hr4) rr.s rr.n rr.h rr.l ?_
    walk_at "rd"
    refine ⟨bk, 0, 1, U.reverse, rfl, bv6.same (S7.trans S8), (by rw [List.length_reverse]; have := g6.u6; omega), fun H9 z3 l3 r3 S9 hz3 hl3 hr5 => ?_⟩
    walk_at "rd"
    refine rd_repr (dp_rows hz3 hl3 hr5) rr.s rr.n rr.h rr.l ?_
    refine rd_neS ?_
    walk_at "rd"
    refine iteF' (by simp) ?_
    walk_at "rd"
    have g9 := g6.same ((S7.trans S8).trans S9)
    obtain ⟨xa, ex, hor⟩ := sqx_or g9.sx
    subst ex
    refine rd_list hor ?_
    intro nl Ha na0 Sa hnl
    have ga := g9.same Sa
    walk_at "rd"
    refine ⟨_, _, .lst (SqL.of hnl) (dp_views ga.pv), .lst (SqL.of ga.ht) (dp_views ga.pv), dW_sh U, dW_sh U, ?_⟩
    rw [show PyData.eqv (.list (U.map dW)) (.list (U.map dW)) = true from dW_eqv U]
    exact hQ Ha ga))
def spRight (K : PySem.W.Frag) : L2.Sp := fun vs H Q _ => ∃ (p q t : Addr) (x : V) (qs : List Addr) (U : PlanI), vs = [.ref p, .ref t, x] ∧ Gv K p q t x qs U H ∧ ∀ H', Gv K p q t x qs U H' → Q (.bl true) H'
section
variable {P : Program} {w : World} {K : PySem.W.Frag} {mg : Str → Option Value} {base : Heap} (T : TX K mg)
theorem G__law_right : FnR P w K mg base CX0 (CG 10) T.f__law_right T.d__law_right ["_law_deal", "_law_plan_here", "_law_given"] (spRight K) := by
  obtain ⟨oc, od, kV, doc, pm, an, cdv, ct, osl, eF, lk, hcd⟩ := T.F__law_right.ex
  rw [eF] at lk
  rw [eF]
  refine fnG_of lk hcd sc__law_right (fun vs H Q E h => ?_) fun A outer s H vs Q E hr hg h => ?_
  · obtain ⟨p, q, t, x, qs, U, rfl, _⟩ := h
    rfl
  have hu : (A.deeper (envOfC "_law_right" (defScope s__law_right) s.heap.objs.size T.f__law_right cdv)).units + 66 < cLine := by
    have := hr.un
    omega
  refine ⟨_, PSs.nox (pss_cons (ps_set (i := 3) sc__law_right.nd rfl (.inl rfl) (pe_call (G__law_fault T) (hr.mono (by decide)) (by rfl) T.m__law_fault T.F__law_fault.kp T.b__law_fault .nil pass0 (by exact (pa_cons (pv 1) pa_nil)))) (pss_cons (ps_if (pt_cmpR op_ne (pe_callB (cr_reprK (K := K) hg hu) (by rfl) T.n_repr (by decide +kernel) (by exact (pa_cons (pe_call (G_plan_fault T) (hr.mono (by decide)) (by rfl) T.m_plan_fault T.F_plan_fault.kp T.b_plan_fault .nil pass0 (by exact (pa_cons (pv 2) pa_nil))) pa_nil))) (pe_callB (cr_reprK (K := K) hg hu) (by rfl) T.n_repr (by decide +kernel) (by exact (pa_cons (pv 3) pa_nil))) (nomark _)) (pss_one (ps_ret pe_bl)) pss_nil) (pss_cons (ps_for PassesOwn.never rfl (pi_range1 (by rfl) T.n_range (by exact (pa_cons pe_int pa_nil))) (pg_name (i := 4) sc__law_right.nd rfl (.inl rfl)) (pss_one (ps_for PassesOwn.never rfl (pi_range1 (by rfl) T.n_range (by exact (pa_cons pe_int pa_nil))) (pg_name (i := 5) sc__law_right.nd rfl (.inl rfl)) (pss_cons (ps_asg (pe_call (G__law_rows T) (hr.mono (by decide)) (by rfl) T.m__law_rows T.F__law_rows.kp T.b__law_rows .nil pass0 (by exact (pa_cons (pv 1) (pa_cons (pv 4) (pa_cons (pv 5) pa_nil))))) (pg_tupK (K := K) (n := 2) (by rfl) (pgs_cons (pg_name (i := 6) sc__law_right.nd rfl (.inl rfl)) (pgs_cons (pg_name (i := 7) sc__law_right.nd rfl (.inl rfl)) pgs_nil)))) (pss_cons (ps_if (pt_cmpR op_ne (pe_callB (cr_reprK (K := K) hg hu) (by rfl) T.n_repr (by decide +kernel) (by exact (pa_cons (pe_call (G_kind_rows T) (hr.mono (by decide)) (by rfl) T.m_kind_rows T.F_kind_rows.kp T.b_kind_rows .nil pass0 (by exact (pa_cons (pv 2) (pa_cons (pv 4) (pa_cons (pv 5) pa_nil))))) pa_nil))) (pe_callB (cr_reprK (K := K) hg hu) (by rfl) T.n_repr (by decide +kernel) (by exact (pa_cons (pe_tup (pa_cons (pv 6) (pa_cons (pv 7) pa_nil))) pa_nil))) (nomark _)) (pss_one (ps_ret pe_bl)) pss_nil) (pss_cons (ps_if (PW.pt (pw_and (pt_cmpR op_gt (pv 4) (pv 5) (nomark _)) (pw_and1 (pt_cmpR op_notBl (pe_call (G_is_plan_fault T) (hr.mono (by decide)) (by rfl) T.m_is_plan_fault T.F_is_plan_fault.kp T.b_is_plan_fault .nil pass0 (by exact (pa_cons (pv 2) (pa_cons (pe_tup (pa_cons (pv 4) (pa_cons (pv 5) (pa_cons (pe_call (G__law_any T) (hr.mono (by decide)) (by rfl) T.m__law_any T.F__law_any.kp T.b__law_any .nil pass0 (by exact (pa_cons (pv 0) (pa_cons (pe_op op_add (pe_callB (cr_lenK (K := K)) (by rfl) T.n_len (by decide +kernel) (by exact (pa_cons (pv 6) pa_nil))) pe_int) pa_nil)))) pa_nil)))) pa_nil)))) pe_bl (nomark _))))) (pss_one (ps_ret pe_bl)) pss_nil) (pss_one (ps_for PassesOwn.never rfl (pi_range1 (by rfl) T.n_range (by exact (pa_cons (pe_ifExp (pt_cmpR op_le (pv 4) (pv 5) (nomark _)) (pe_op op_add (pe_callB (cr_lenK (K := K)) (by rfl) T.n_len (by decide +kernel) (by exact (pa_cons (pv 6) pa_nil))) pe_int) pe_int) pa_nil))) (pg_name (i := 8) sc__law_right.nd rfl (.inl rfl)) (pss_one (ps_if (pt_cmpR op_ne (pe_callB (cr_reprK (K := K) hg hu) (by rfl) T.n_repr (by decide +kernel) (by exact (pa_cons (pe_call (G_is_plan_fault T) (hr.mono (by decide)) (by rfl) T.m_is_plan_fault T.F_is_plan_fault.kp T.b_is_plan_fault .nil pass0 (by exact (pa_cons (pv 2) (pa_cons (pe_tup (pa_cons (pv 4) (pa_cons (pv 5) (pa_cons (pv 8) pa_nil)))) pa_nil)))) pa_nil))) (pe_callB (cr_reprK (K := K) hg hu) (by rfl) T.n_repr (by decide +kernel) (by exact (pa_cons (pe_call (G__law_bars T) (hr.mono (by decide)) (by rfl) T.m__law_bars T.F__law_bars.kp T.b__law_bars .nil pass0 (by exact (pa_cons (pv 6) (pa_cons (pv 7) (pa_cons (pe_cmpR op_eq (pv 4) (pv 5) (nomark _)) (pa_cons (pv 8) pa_nil)))))) pa_nil))) (nomark _)) (pss_one (ps_ret pe_bl)) pss_nil)))))))))) (pss_cons (ps_if (PW.pt (pw_and (pt_cmp (pc_notN (pv 3))) (pw_and1 (pt_cmpR op_notBl (pe_callK (G_is_plan_fault T) (hr.mono (by decide)) (by rfl) T.m_is_plan_fault T.F_is_plan_fault.kp (kb_is_plan_fault T) pass0 (by exact (pk_cons (pv 3) (pk_cons (pv 2) pk_nil)))) pe_bl (nomark _))))) (pss_one (ps_ret pe_bl)) pss_nil) (pss_cons (ps_for PassesOwn.never rfl (pi_listK (K := K) (pe_call (G__law_bent T) (hr.mono (by decide)) (by rfl) T.m__law_bent T.F__law_bent.kp T.b__law_bent .nil pass0 (by exact (pa_cons (pv 0) (pa_cons (pv 3) pa_nil))))) (pg_name (i := 9) sc__law_right.nd rfl (.inl rfl)) (pss_one (ps_if (pt_cmpR op_notBl (pe_call (G_is_plan_fault T) (hr.mono (by decide)) (by rfl) T.m_is_plan_fault T.F_is_plan_fault.kp T.b_is_plan_fault .nil pass0 (by exact (pa_cons (pv 2) (pa_cons (pv 9) pa_nil)))) pe_bl (nomark _)) (pss_one (ps_ret pe_bl)) pss_nil))) (pss_cons (ps_set (i := 10) sc__law_right.nd rfl (.inl rfl) (pe_revLK (K := K) (pv 1))) (pss_cons (ps_if (PW.pt (pw_or (pt_cmpR op_ne (pe_callB (cr_reprK (K := K) hg hu) (by rfl) T.n_repr (by decide +kernel) (by exact (pa_cons (pe_call (G_plan_fault T) (hr.mono (by decide)) (by rfl) T.m_plan_fault T.F_plan_fault.kp T.b_plan_fault .nil pass0 (by exact (pa_cons (pv 10) pa_nil))) pa_nil))) (pe_callB (cr_reprK (K := K) hg hu) (by rfl) T.n_repr (by decide +kernel) (by exact (pa_cons (pv 3) pa_nil))) (nomark _)) (pw_or1 (pt_cmpR op_ne (pe_callB (cr_reprK (K := K) hg hu) (by rfl) T.n_repr (by decide +kernel) (by exact (pa_cons (pe_callK (G_kind_rows T) (hr.mono (by decide)) (by rfl) T.m_kind_rows T.F_kind_rows.kp (kb_kind_rows T) pass0 (by exact (pk_cons pe_int (pk_cons pe_int (pk_cons (pv 10) pk_nil))))) pa_nil))) (pe_callB (cr_reprK (K := K) hg hu) (by rfl) T.n_repr (by decide +kernel) (by exact (pa_cons (pe_call (G__law_rows T) (hr.mono (by decide)) (by rfl) T.m__law_rows T.F__law_rows.kp T.b__law_rows .nil pass0 (by exact (pa_cons (pv 10) (pa_cons pe_int (pa_cons pe_int pa_nil))))) pa_nil))) (nomark _))))) (pss_one (ps_ret pe_bl)) pss_nil) (pss_one (ps_ret (pe_cmpR (op_eqDK (K := K) hr.units) (pe_callTy (cr_listK (K := K)) (by rfl) T.n_list (by decide +kernel) (by exact (pa_cons (pv 2) pa_nil))) (pv 1) (nomark _))))))))))), ?_⟩
  obtain ⟨p, q, t, x, qs, U, rfl, g0, hQ⟩ := h
  have rf := rep_fault g0.okf
  walk_at "rd"
  refine ⟨t, U, rfl, g0.vwl, by have := g0.u6; omega, fun H1 y S1 hy => ?_⟩
  have g1 := g0.same S1
  walk_at "rd"
  refine ⟨x, U, rfl, g1.plan, fun H2 z S2 hz => ?_⟩
  have g2 := g1.same S2
  have hy2 := hy.same S2
  clear g0 g1 hy S1
  walk_at "rd"
  refine rd_repr (dp_fault hz) rf.s rf.n rf.h rf.l ?_
  walk_at "rd"
  refine rd_repr (dp_fault hy2) rf.s rf.n rf.h rf.l ?_
  refine rd_neS ?_
  walk_at "rd"
  refine iteF' (by simp) ?_
  clear hz S2
  walk_at "rd"
  refine ⟨by omega, by omega, ?_⟩
  refine for_range (lo := 0) (n := 4) (fun i σ H' => (∃ o4 o5 o6 o7 o8 o9 o10, σ = [some (.ref p), some (.ref t), some x, some y, o4, o5, o6, o7, o8, o9, o10]) ∧ Gv K p q t x qs U H' ∧ FaultAt H' y (faultI U)) ⟨⟨_, _, _, _, _, _, _, rfl⟩, g2, hy2⟩ (fun i σ H' hi pv => ?_) (fun σ H' pv => ?_)
  · obtain ⟨⟨o4, o5, o6, o7, o8, o9, o10, rfl⟩, g, hy⟩ := pv
    clear g2 hy2
    rw [show (0 : Int) + (i : Nat) = (i : Nat) by omega]
    walk_at "rd"
    refine ⟨by omega, by omega, ?_⟩
    refine for_range (lo := 0) (n := 4) (fun j σ H' => (∃ o5 o6 o7 o8 o9 o10, σ = [some (.ref p), some (.ref t), some x, some y, some (.int (i : Nat)), o5, o6, o7, o8, o9, o10]) ∧ Gv K p q t x qs U H' ∧ FaultAt H' y (faultI U)) ⟨⟨_, _, _, _, _, _, rfl⟩, g, hy⟩ (fun j σ H' hj pv => ?_) (fun σ H' pv => ?_)
    · obtain ⟨⟨o5, o6, o7, o8, o9, o10, rfl⟩, g, hy⟩ := pv
      rw [show (0 : Int) + (j : Nat) = (j : Nat) by omega]
      walk_at "rd"
      refine ⟨t, _, _, U, rfl, g.vwl, by have := g.u6; omega, fun H3 z l r S3 hz hl hr3 => ?_⟩
      have g3 := g.same S3
      have hy3 := hy.same S3
      refine rd_gtup (Tup.of hz) rfl ?_
      walk_at "rd"
      refine ⟨x, _, _, U, rfl, g3.plan, fun H4 z2 l2 r2 S4 hz2 hl2 hr4 => ?_⟩
      have g4 := g3.same S4
      have hy4 := hy3.same S4
      have hl4 := hl.same S4
      have hr4' := hr3.same S4
      have rr := g4.rep ((i : Nat) : Int) ((j : Nat) : Int) ((j : Nat) : Int) ((i : Nat) : Int)
      walk_at "rd"
      refine rd_repr (dp_rows hz2 hl2 hr4) rr.s rr.n rr.h rr.l ?_
      walk_at "rd"
      intro z3 H5 z30 S5 hz3
      walk_at "rd"
      refine rd_repr (dp_rows hz3 (hl4.same S5) (hr4'.same S5)) rr.s rr.n rr.h rr.l ?_
      refine rd_neS ?_
      walk_at "rd"
      refine iteF' (by simp) ?_
      have g5 := g4.same S5
      have hy5 := hy4.same S5
      have hl5 := hl4.same S5
      have hr5 := hr4'.same S5
      obtain ⟨l6, n6⟩ := g5.row ((i : Nat) : Int) ((j : Nat) : Int)
      obtain ⟨l6', n6'⟩ := g5.row ((j : Nat) : Int) ((i : Nat) : Int)
      clear g3 g4 hy3 hy4 hl hl4 hr3 hr4' hz hz2 hl2 hr4 hz3 g hy S3 S4 S5
      walk_at "rd"
      by_cases c : ((j : Nat) : Int) < ((i : Nat) : Int)
      · refine iteT' (decide_eq_true c) ?_
        walk_at "rd"
        refine rd_lenTup hl5 ?_
        rw [List.length_map]
        walk_at "rd"
        refine ⟨p, q, _, rfl, g5.d, by omega, by omega, fun H6 k d6 f6 k0 k1 => ?_⟩
        have g6 := g5.fix d6 f6
        have hy6 := fault_fix f6 g5.d hy5
        have hl6 : RowT H6 l _ := tup_fix f6 g5.d hl5
        obtain ⟨kn, rfl⟩ := Int.eq_ofNat_of_zero_le k0
        walk_at "rd"
        intro z4 H7 z40 S7 hz4
        walk_at "rd"
        refine ⟨x, .ref z4, U, false, rfl, (g6.same S7).plan, ask_num hz4 (by omega) (by omega) (by omega) (by omega) U, fun H8 S8 => ?_⟩
        walk_at "rd"
        refine rd_notB ?_
        walk_at "rd"
        refine iteF' (by decide) ?_
        walk_at "rd"
        refine iteF' (decide_eq_false (by omega)) ?_
        walk_at "rd"
        refine ⟨by omega, by omega, ?_⟩
        refine for_range (lo := 0) (n := 0) (fun k σ H' => (∃ o8 o9 o10, σ = [some (.ref p), some (.ref t), some x, some y, some (.int (i : Nat)), some (.int (j : Nat)), some (.ref l), some (.ref r), o8, o9, o10]) ∧ Gv K p q t x qs U H' ∧ FaultAt H' y (faultI U)) ⟨⟨_, _, _, rfl⟩, (g6.same S7).same S8, (hy6.same S7).same S8⟩ (fun k σ H' hk pv => absurd hk (by omega)) (fun σ H' pv => ?_)
        obtain ⟨⟨o8, o9, o10, rfl⟩, g, hy⟩ := pv
        exact ⟨⟨_, _, _, _, _, _, rfl⟩, g, hy⟩
      · refine iteF' (decide_eq_false c) ?_
        walk_at "rd"
        refine iteT' (decide_eq_true (by omega)) ?_
        walk_at "rd"
        refine rd_lenTup hl5 ?_
        rw [List.length_map]
        walk_at "rd"
        refine ⟨by omega, by omega, ?_⟩
        refine for_range (lo := 0) (n := (((rowI U ((i : Nat) : Int) ((j : Nat) : Int)).length : Nat) + (2 : Int)).toNat) (fun k σ H' => (∃ o8 o9 o10, σ = [some (.ref p), some (.ref t), some x, some y, some (.int (i : Nat)), some (.int (j : Nat)), some (.ref l), some (.ref r), o8, o9, o10]) ∧ Gv K p q t x qs U H' ∧ FaultAt H' y (faultI U) ∧
          RowT H' l (rowI U ((i : Nat) : Int) ((j : Nat) : Int)) ∧ RowT H' r (rowI U ((j : Nat) : Int) ((i : Nat) : Int))) ⟨⟨_, _, _, rfl⟩, g5, hy5, hl5, hr5⟩ (fun k σ H' hk pv => ?_) (fun σ H' pv => ?_)
        · obtain ⟨⟨o8, o9, o10, rfl⟩, g, hy, hl, hr7⟩ := pv
          rw [show (0 : Int) + (k : Nat) = (k : Nat) by omega]
          walk_at "rd"
          intro z4 H7 z40 S7 hz4
          walk_at "rd"
          refine ⟨x, .ref z4, U, _, rfl, (g.same S7).plan, .num (Tup.of hz4) (by omega) (by omega) (by omega), fun H8 S8 => ?_⟩
          have ev : isPF U ((i : Nat) : Int) ((j : Nat) : Int) k = barsI (rowI U ((i : Nat) : Int) ((j : Nat) : Int)) (rowI U ((j : Nat) : Int) ((i : Nat) : Int)) (decide (((i : Nat) : Int) = ((j : Nat) : Int))) k := by
            unfold isPF
            rw [decide_eq_true (by omega : ((i : Nat) : Int) ≤ ((j : Nat) : Int)), decide_eq_true (by omega : ((j : Nat) : Int) < 4)]
            rfl
          rw [ev]
          have rb := rep_bool (barsI (rowI U ((i : Nat) : Int) ((j : Nat) : Int)) (rowI U ((j : Nat) : Int) ((i : Nat) : Int)) (decide (((i : Nat) : Int) = ((j : Nat) : Int))) k)
          have S78 := S7.trans S8
          walk_at "rd"
          refine rd_repr (.bl _) rb.s rb.n rb.h rb.l ?_
          walk_at "rd"
          refine ⟨l, r, _, _, _, k, rfl, ⟨hl.same S78, by omega, fun z hz => by have := n6 z hz; omega⟩, ⟨hr7.same S78, by omega, fun z hz => by have := n6' z hz; omega⟩, by omega, fun H9 S9 => ?_⟩
          walk_at "rd"
          refine rd_repr (.bl _) rb.s rb.n rb.h rb.l ?_
          refine rd_neS ?_
          walk_at "rd"
          refine iteF' (by simp) ?_
          walk_at "rd"
          have S79 := S78.trans S9
          exact ⟨⟨_, _, _, rfl⟩, g.same S79, hy.same S79, hl.same S79, hr7.same S79⟩
        · obtain ⟨⟨o8, o9, o10, rfl⟩, g, hy, _, _⟩ := pv
          exact ⟨⟨_, _, _, _, _, _, rfl⟩, g, hy⟩
    · obtain ⟨⟨o5, o6, o7, o8, o9, o10, rfl⟩, g, hy⟩ := pv
      exact ⟨⟨_, _, _, _, _, _, _, rfl⟩, g, hy⟩
  · obtain ⟨⟨o4, o5, o6, o7, o8, o9, o10, rfl⟩, g, hy⟩ := pv
    clear g2 hy2
    have hy0 := hy
    walk_at "rd"
    refine rd_notN ?_
    walk_at "rd"
    rcases eo : faultI U with _ | ⟨a, b, k⟩
    · rw [eo] at hy0
      have ey : y = .non := hy0
      refine iteF' (by rw [ey]; simp) ?_
      clear hy0 ey eo
      walk_at "ri_rest"
    · rw [eo] at hy0
      obtain ⟨t0, ey, h0⟩ := hy0
      obtain ⟨⟨a0, ab, b4⟩, br⟩ := fault_right eo
      have ok := g.okf a b k eo
      refine iteT' (by rw [ey]; simp) ?_
      walk_at "rd"
      refine rd_callK ?_
      walk_at "rd"
      have ask : AskX K H' U y true := by
        have e : isPF U a b k = true := by
          unfold isPF
          rw [decide_eq_true ab, decide_eq_true b4, br]; rfl
        rw [ey, ← e]
        exact .num h0 a0 (by omega) (by omega)
      refine ⟨rfl, x, y, U, true, rfl, g.plan, ask, fun H3 S3 => ?_⟩
      walk_at "rd"
      refine rd_notB ?_
      walk_at "rd"
      refine iteF' (by decide) ?_
      have g' := g.same S3
      have hy' := hy.same S3
      clear g hy h0 ask ey eo ok br
      have g := g'
      have hy := hy'
      walk_at "ri_rest"
end
end K10

namespace K10
open PySem PySem.Spec PyProof.Rows L2 KX
local macro_rules | `(tactic| walk_at "rd1") => `(tactic| first
  | with_reducible refine rd_seq ?_
  | with_reducible refine rd_for ?_
  | with_reducible refine rd_lc ?_
  | with_reducible refine rd_asg ?_
  | ((with_reducible refine' rd_var ?rdv ?_); (case rdv => exact rfl))
  | with_reducible refine rd_c ?_
  | with_reducible refine rd_op ?_
  | with_reducible refine rd_un ?_
  | with_reducible refine rd_cons ?_
  | with_reducible refine rd_nil ?_
  | with_reducible refine rd_call ?_
  | with_reducible refine rd_cb ?_
  | with_reducible refine rd_tB ?_
  | with_reducible refine rd_test ?_
  | with_reducible refine rd_bl ?_
  | with_reducible refine rd_rI0 ?_
  | with_reducible refine rd_eqI ?_
  | with_reducible refine rd_neI ?_
  | with_reducible refine rd_rU ?_
  | with_reducible refine rd_name ?_
  | with_reducible refine rd_ifs ?_
  | with_reducible refine rd_and ?_
  | with_reducible refine rd_or ?_
  | with_reducible refine rd_not ?_
  | with_reducible refine rd_yes ?_
  | with_reducible refine rd_andV ?_
  | with_reducible refine rd_orV ?_
  | with_reducible refine rd_notV ?_
  | with_reducible refine rd_if ?_
  | with_reducible refine rd_isN ?_
  | with_reducible refine rd_iT ?_
  | with_reducible refine rd_iF ?_
  | with_reducible refine rd_ret ?_
  | with_reducible refine rd_retN ?_
  | with_reducible refine rd_drop ?_
  | with_reducible refine rd_next ?_
  | with_reducible refine rd_cont ?_
  | with_reducible refine rd_brk ?_
  | with_reducible refine rd_nx ?_
  | with_reducible refine rd_rt ?_
  | with_reducible refine rd_ct ?_
  | with_reducible refine rd_bk ?_
  | with_reducible refine rd_par ?_
  | with_reducible refine rd_par3 ?_
  | with_reducible refine rd_par2 ?_
  | with_reducible refine rd_par33 ?_
  | with_reducible refine rd_gcons ?_
  | with_reducible refine rd_gnil ?_
  | with_reducible refine rd_sub ?_
  | with_reducible refine rd_tup ?_
  | with_reducible refine rd_lst ?_
  | ((with_reducible refine rd_tupT ?hl ?_); (case hl => exact Nat.le_of_ble_eq_true rfl))
  | ((with_reducible refine rd_lstT ?hl ?_); (case hl => exact Nat.le_of_ble_eq_true rfl))
  | with_reducible refine rd_bm ?_
  | with_reducible refine rd_bm0 ?_
  | with_reducible refine rd_sl ?_
  | with_reducible refine rd_noP ?_
  | with_reducible refine rd_part ?_
  | with_reducible refine rd_int ?_
  | with_reducible refine rd_int1 ?_
  | with_reducible refine rd_fld ?_
  | with_reducible refine rd_then ?_
  | with_reducible refine rd_raise ?_
  | with_reducible refine rd_one ?_
  | with_reducible refine rd_sfld ?_
  | with_reducible refine rd_ilist ?_
  | with_reducible refine rd_itup ?_
  | with_reducible refine rd_rng1 ?_
  | with_reducible refine rd_enum ?_
  | with_reducible refine rd_enumT ?_)
local macro_rules | `(tactic| walk_at "rd") => `(tactic| repeat (walk_at "rd1"))
theorem paired_rep {α β : Type} {F : α → β → Prop} {a : α} {b : β} (f : F a b) : ∀ n, Paired F (List.replicate n a) (List.replicate n b)
  | 0 => .nil
  | n + 1 => .cons f (paired_rep f n)
def spLaw (K : PySem.W.Frag) : L2.Sp := fun vs H Q _ => ∃ (a : Addr) (ns : List Int), vs = [.ref a] ∧ SqL K H a (ns.map V.int) ∧ ∀ H', Q (.bl true) H'
set_option hygiene false in
local macro_rules | `(tactic| walk_at "lw_end") => `(tactic| (
  have eo : faultI (List.replicate n (m, List.replicate d m)) = o := (fault_even (by omega) (by omega) m0 m4).trans ho
  have rf : Rep (dF o) := rep_fault fun a b k e => (by rw [← ho] at e; split at e <;> cases e <;> omega)
  walk_at "rd"
  refine rd_tupFd ?_
  walk_at "rd"
  refine ⟨by show 1 ≤ sizeLine; decide, fun Ha t1 Sa ht1 => ?_⟩
  walk_at "rd"
  refine ⟨t1, d, .int m, rfl, rfl, ht1, by omega, fun Hb r Sb hr3 => ?_⟩
  walk_at "rd"
  intro v Hc v0 Sc hv
  walk_at "rd"
  intro l Hd l0 Sd hl
  walk_at "rd"
  refine rd_rep1 hl (by omega) ?_
  intro L He L0 Se hL
  walk_at "rd"
  have hw : ViewF He v (m, List.replicate d m) := ⟨r, Tup.of (Se _ _ (Sd _ _ hv)), (by rw [List.map_replicate]; exact ((hr3.same Sc).same Sd).same Se)⟩
  have hp : PlanAt K He (.ref L) (List.replicate n (m, List.replicate d m)) := ⟨⟨List.replicate n v, .lst (by rw [hL, List.map_replicate]), paired_rep hw n⟩, (by rw [List.length_replicate]; omega), fun u hu' => (by rw [List.eq_of_mem_replicate hu']; show (List.replicate d m).length ≤ 1000; rw [List.length_replicate]; omega)⟩
  refine ⟨.ref L, _, rfl, hp, fun Hf z Sf hz => ?_⟩
  rw [eo] at hz
  walk_at "rd"
  refine rd_repr (dp_fault hz) rf.s rf.n rf.h rf.l ?_
  walk_at "rd"
  refine rd_repr (dp_fault (hy.same ((((Sa.trans Sb).trans Sc).trans (Sd.trans Se)).trans Sf))) rf.s rf.n rf.h rf.l ?_
  refine rd_eqS ?_
  rw [decide_eq_true rfl]
  exact hQ _))
section
variable {P : Program} {w : World} {K : PySem.W.Frag} {mg : Str → Option Value} {base : Heap} (T : TX K mg)
theorem G_law : FnR P w K mg base CX0 (CG 13) T.f_law T.d_law ["_law_script"] (spLaw K) := by
  obtain ⟨oc, od, kV, doc, pm, an, cdv, ct, osl, eF, lk, hcd⟩ := T.F_law.ex
  rw [eF] at lk
  rw [eF]
  refine fnG_of lk hcd sc_law (fun vs H Q E h => ?_) fun A outer s H vs Q E hr hg h => ?_
  · obtain ⟨a, ns, rfl, _⟩ := h
    rfl
  have hu : (A.deeper (envOfC "law" (defScope s_law) s.heap.objs.size T.f_law cdv)).units + 66 < cLine := by
    have := hr.un
    omega
  refine ⟨_, PSs.nox (pss_cons (ps_set (i := 1) sc_law.nd rfl (.inl rfl) (pe_call (G__law_draw T) (hr.mono (by decide)) (by rfl) T.m__law_draw T.F__law_draw.kp T.b__law_draw .nil pass0 (by exact (pa_cons (pv 0) (pa_cons pe_int pa_nil))))) (pss_cons (ps_set (i := 2) sc_law.nd rfl (.inl rfl) (pe_call (G__law_plan T) (hr.mono (by decide)) (by rfl) T.m__law_plan T.F__law_plan.kp T.b__law_plan .nil pass0 (by exact (pa_cons (pv 1) (pa_cons pe_int pa_nil))))) (pss_cons (ps_if (pt_not (pt_val (pe_callR (G__law_right T) (fun _ _ _ _ _ => ⟨hr.mono (by decide), hg⟩) (by rfl) T.m__law_right T.F__law_right.kp T.b__law_right pass0 (by exact (pa_cons (pv 1) (pa_cons (pv 2) (pa_cons (pe_call (G__law_of T) (hr.mono (by decide)) (by rfl) T.m__law_of T.F__law_of.kp T.b__law_of .nil pass0 (by exact (pa_cons (pv 1) (pa_cons (pe_lst (pa_cons (pe_callTy (cr_listK (K := K)) (by rfl) T.n_list (by decide +kernel) (by exact (pa_cons (pv 2) pa_nil))) (pa_cons (pe_tupleK (K := K) (by rfl) T.n_tuple (pv 2)) pa_nil))) pa_nil)))) pa_nil))))))) (pss_one (ps_ret pe_bl)) pss_nil) (pss_cons (ps_par3 (i := 3) (j := 4) (l := 5) (by rfl) sc_law.nd rfl rfl rfl (by decide) (by decide) (by decide) rfl rfl rfl (pa_cons (pe_call (G__law_any T) (hr.mono (by decide)) (by rfl) T.m__law_any T.F__law_any.kp T.b__law_any .nil pass0 (by exact (pa_cons (pv 1) (pa_cons pe_int pa_nil)))) (pa_cons (pe_call (G__law_any T) (hr.mono (by decide)) (by rfl) T.m__law_any T.F__law_any.kp T.b__law_any .nil pass0 (by exact (pa_cons (pv 1) (pa_cons pe_int pa_nil)))) (pa_cons (pe_op op_add pe_int (pe_call (G__law_any T) (hr.mono (by decide)) (by rfl) T.m__law_any T.F__law_any.kp T.b__law_any .nil pass0 (by exact (pa_cons (pv 1) (pa_cons pe_int pa_nil))))) pa_nil))) (by rfl)) (pss_cons (ps_set (i := 6) sc_law.nd rfl (.inl rfl) (pe_ifExp (pt_cmpR op_eq (pe_op op_mod (pe_callTy call_int1 (by rfl) T.n_int (by decide +kernel) (by exact (pa_cons (pe_op op_mul (pv 4) (pv 5)) pa_nil))) pe_int) pe_int (nomark _)) pe_non (pe_tup (pa_cons (pv 3) (pa_cons (pv 3) (pa_cons pe_int pa_nil)))))) (pss_one (ps_ret (pe_cmpR op_eq (pe_callB (cr_reprK (K := K) hg hu) (by rfl) T.n_repr (by decide +kernel) (by exact (pa_cons (pe_call (G_plan_fault T) (hr.mono (by decide)) (by rfl) T.m_plan_fault T.F_plan_fault.kp T.b_plan_fault .nil pass0 (by exact (pa_cons (pe_op op_rep (pe_lst (pa_cons (pe_tup (pa_cons (pv 3) (pa_cons (pe_op op_repF (pe_tupF (pa_cons (pv 3) pa_nil)) (pv 4)) pa_nil))) pa_nil)) (pv 5)) pa_nil))) pa_nil))) (pe_callB (cr_reprK (K := K) hg hu) (by rfl) T.n_repr (by decide +kernel) (by exact (pa_cons (pv 6) pa_nil))) (nomark _))))))))), ?_⟩
  obtain ⟨a, ns0, rfl, hS, hQ⟩ := h
  walk_at "rd"
  refine ⟨a, ns0, 10, rfl, hS, by decide, by decide, fun H0 p q S0 np nq d0 => ?_⟩
  walk_at "rd"
  clear hS S0 np nq
  refine ⟨p, q, rfl, d0, fun H1 t U d1 f1 t0 tp tq hU u1 u6 => ?_⟩
  obtain ⟨qs, hqs, pqs, lqs⟩ := hU
  walk_at "rd"
  refine rd_list (.inl (SqL.of hqs)) ?_
  intro l1 H2 l10 S2 hl1
  walk_at "rd"
  refine rd_tupL (S2 _ _ hqs) ?_
  intro t1 H3 t10 S3 ht1
  walk_at "rd"
  intro o1 H4 o10 S4 ho1
  walk_at "rd"
  have d2 := d1.same S2
  have d3 := d2.same S3
  have d4 := d3.same S4
  obtain ⟨lp, lq⟩ := d1.nes l10
  obtain ⟨t1p, t1q⟩ := d2.nes t10
  obtain ⟨op, oq⟩ := d3.nes o10
  have S24 := (S2.trans S3).trans S4
  have gL : Gv K p q t (.ref l1) qs U H4 := ⟨d4, S24 _ _ hqs, views_same pqs S24, .lst (S4 _ _ (S3 _ _ hl1)), tp, tq, fun a e => by cases e; exact ⟨lp, lq⟩, lqs, u1, u6⟩
  have gT : Gv K p q t (.ref t1) qs U H4 := ⟨d4, S24 _ _ hqs, views_same pqs S24, .tup (Tup.of (S4 _ _ ht1)), tp, tq, fun a e => by cases e; exact ⟨t1p, t1q⟩, lqs, u1, u6⟩
  refine ⟨p, q, o1, _, rfl, d4, op, oq, ho1, by simp, by simp, fun H5 x hx d5 f5 => ?_⟩
  have g5 : Gv K p q t x qs U H5 := by
    simp only [List.mem_cons, List.not_mem_nil, or_false] at hx
    rcases hx with rfl | rfl
    · exact gL.fix d5 f5
    · exact gT.fix d5 f5
  clear gL gT hx d1 d2 d3 d4 hl1 ht1 ho1 hqs pqs f1 f5 S24 S2 S3 S4
  walk_at "rd"
  refine ⟨p, q, t, x, qs, U, rfl, g5, fun H6 g6 => ?_⟩
  walk_at "rd"
  refine iteF' rfl ?_
  have d6 := g6.d
  clear g5 g6 d5
  walk_at "rd"
  refine ⟨p, q, 4, rfl, d6, by decide, by decide, fun H7 m d7 f7 m0 m4 => ?_⟩
  walk_at "rd"
  refine ⟨p, q, 5, rfl, d7, by decide, by decide, fun H8 dg d8 f8 dg0 dg5 => ?_⟩
  walk_at "rd"
  refine ⟨p, q, 2, rfl, d8, by decide, by decide, fun H9 mn d9 f9 mn0 mn2 => ?_⟩
  obtain ⟨d, rfl⟩ := Int.eq_ofNat_of_zero_le dg0
  obtain ⟨n, en⟩ : ∃ n : Nat, 63 + mn = (n : Nat) := Int.eq_ofNat_of_zero_le (by omega)
  refine rd_rI0 ?_
  rw [en]
  walk_at "rd"
  refine rd_rI (.inl ⟨by omega, by omega⟩) ?_
  walk_at "rd"
  refine .inl ⟨_, rfl, ?_⟩
  walk_at "rd"
  refine rd_rI (by decide) ?_
  walk_at "rd"
  have em : ((d : Nat) : Int) * ((n : Nat) : Int) % 2 = ((d * n % 2 : Nat) : Int) := by
    rw [Int.natCast_emod, Int.natCast_mul]; rfl
  obtain ⟨o, ho⟩ : ∃ o, (if d * n % 2 = 0 then none else some (m, m, 0)) = o := ⟨_, rfl⟩
  by_cases c : d * n % 2 = 0
  · refine iteT' (decide_eq_true (by omega)) ?_
    obtain ⟨y, ey⟩ : ∃ y, y = V.non := ⟨_, rfl⟩
    have hy : FaultAt H9 y o := by rw [← ho, if_pos c]; exact ey
    rw [← ey] at *
    walk_at "lw_end"
  · refine iteF' (decide_eq_false (by omega)) ?_
    walk_at "rd"
    intro t2 Hz t20 Sz ht2
    have hy : FaultAt Hz (.ref t2) o := by rw [← ho, if_neg c]; exact ⟨t2, rfl, Tup.of ht2⟩
    walk_at "lw_end"
end
end K10

namespace K10
open PySem PySem.Spec PyProof.Rows L2 L2H KX
/-! what the top has written, as one test -/
def ClsAt (K : PySem.W.Frag) (c : Addr) : Prop := ∃ nm q N bs bm sn sub ab col dd k0 k1 k2 k3 k5,
  K.lookup c = some (excClassObj nm q c N bs bm true sn sub ab col dd k0 k1 k2 k3 k5 "ValueError.__new__") ∧ PySem.HandSPX.refsVE bm = true
def IniAt (K : PySem.W.Frag) (qn : Str) (f : Addr) : Prop :=
  ∃ (oc : Value) (od : Option Addr) (doc pm : Value) (an : Option Addr) (cdv ct : Value) (osl : Array (Option Value)) (p1 p2 q1 q2 q3 q4 : Pos),
    K.lookup f = some ⟨oc, od, .func (PySem.W.fnOf "__init__" qn (PySem.ErrX.iA p1 p2) (PySem.ErrX.iB q1 q2 q3 q4) PySem.ErrX.iS .none .none doc pm an cdv ct), osl⟩ ∧
      PySem.W.codeIn K cdv qn = true
def okE (K : PySem.W.Frag) (c f cn : Addr) : Bool :=
  xfB K c && (decide (PySem.W.findIn K (.ref c) "at" = some none) &&
  (decide (PySem.W.findIn K (.ref c) "__setattr__" = some (some (.builtin "object.__setattr__"))) &&
  (decide (PySem.W.findIn K (.ref c) "__init__" = some (some (.ref f))) &&
  (decide (PySem.W.typeIn K (.ref f) = some (.type "function")) && (PySem.W.keepIn K (.ref c) &&
  (decide (PySem.W.typeIn K (.ref c) = some (.type "type")) && (decide (PySem.W.exmOne K (.ref c) (.ref c) = some true) &&
  (decide (PySem.W.findIn K (.ref c) "__class__" = some (some (.builtin "object.__class__"))) &&
  (decide (PySem.W.specialIn K (.builtin "object.__class__") "__get__" = some (some (.builtin "getset_descriptor.__get__"))) &&
  (decide (PySem.W.takesIn K (.builtin "object.__class__") = some true) && (decide (PySem.W.mroIn K c (.type "object") = some true) &&
  (decide (PySem.W.kitOne K (.ref c) (.type "ValueError") = some true) &&
   decide (PySem.W.exmOne K (.ref c) (.ref cn) = some true)))))))))))))
structure OkE (K : PySem.W.Frag) (c f cn : Addr) : Prop where
  xf : XfC K c
  no : PySem.W.findIn K (.ref c) "at" = some none
  sa : PySem.W.findIn K (.ref c) "__setattr__" = some (some (.builtin "object.__setattr__"))
  ini : PySem.W.findIn K (.ref c) "__init__" = some (some (.ref f))
  tf : PySem.W.typeIn K (.ref f) = some (.type "function")
  kc : PySem.W.keepIn K (.ref c) = true
  ty : PySem.W.typeIn K (.ref c) = some (.type "type")
  te : PySem.W.exmOne K (.ref c) (.ref c) = some true
  ha : PySem.W.findIn K (.ref c) "__class__" = some (some (.builtin "object.__class__"))
  hn : PySem.W.specialIn K (.builtin "object.__class__") "__get__" = some (some (.builtin "getset_descriptor.__get__"))
  ht : PySem.W.takesIn K (.builtin "object.__class__") = some true
  hm : PySem.W.mroIn K c (.type "object") = some true
  ve : PySem.W.kitOne K (.ref c) (.type "ValueError") = some true
  exm : PySem.W.exmOne K (.ref c) (.ref cn) = some true
theorem okE_ok {K : PySem.W.Frag} {c f cn : Addr} (h : okE K c f cn = true) : OkE K c f cn := by
  unfold okE at h
  simp only [Bool.and_eq_true, decide_eq_true_eq] at h
  obtain ⟨h1, h2, h3, h4, h5, h6, h7, h8, h9, h10, h11, h12, h13, h14⟩ := h
  exact ⟨xfB_ok h1, h2, h3, h4, h5, h6, h7, h8, h9, h10, h11, h12, h13, h14⟩
theorem err_of {K : PySem.W.Frag} {mg : Str → Option Value} {en qn : Str} {c f cn : Addr} (z : OkE K c f cn)
    (g : mg en = some (.ref c)) (hc : ClsAt K c) (hf : IniAt K qn f) : PySem.ErrX.ErrTxt K mg en qn c f :=
  ⟨g, hc, z.sa, z.xf.ga, z.xf.gg, z.no, z.ini, z.tf, z.kc, z.xf.exC, z.ty, z.xf.hdC, z.te, hf⟩
/-- a def of the top, or of a class, at f -/
def DefAt (K : PySem.W.Frag) (x q : Str) (st : Stmt) (f : Addr) : Prop :=
  ∃ (oc : Value) (od : Option Addr) (kV doc pm : Value) (an : Option Addr) (cdv ct : Value) (osl : Array (Option Value)),
    K.lookup f = some ⟨oc, od, .func (PySem.W.fnOf x q (defArgs st) (defBody st) (defScope st) .none kV doc pm an cdv ct), osl⟩ ∧
      PySem.W.codeIn K cdv q = true
theorem fun_of {K : PySem.W.Frag} {x q : Str} {st : Stmt} {f : Addr} (h : DefAt K x q st f) (k : PySem.W.keepIn K (.ref f) = true) :
    ∃ fd kV doc pm an cdv ct, fd = PySem.W.fnOf x q (defArgs st) (defBody st) (defScope st) .none kV doc pm an cdv ct ∧ Fun K x q st f fd := by
  obtain ⟨oc, od, kV, doc, pm, an, cdv, ct, osl, l, c⟩ := h
  exact ⟨_, kV, doc, pm, an, cdv, ct, rfl, fun_mk l c k⟩
/-- what is asked of a class with an own == -/
def okC (K : PySem.W.Frag) (c i e : Addr) (fs : List Str) : Bool :=
  PySem.W.plainGet K c Str.empty && (PySem.W.hasDictIn K c && (PySem.W.plainOver K c &&
  (decide (PySem.W.findIn K (.ref c) "__setattr__" = some (some (.builtin "object.__setattr__"))) &&
  (fs.all (fun f => decide (PySem.W.findIn K (.ref c) f = some none)) && (PySem.W.makesIn K c &&
  (decide (PySem.W.findIn K (.ref c) "__init__" = some (some (.ref i))) && (PySem.W.isFn K (.ref i) && (PySem.W.keepIn K (.ref c) &&
  (decide (PySem.W.findIn K (.ref c) "__class__" = some (some (.builtin "object.__class__"))) &&
  (decide (PySem.W.specialIn K (.builtin "object.__class__") "__get__" = some (some (.builtin "getset_descriptor.__get__"))) &&
  (decide (PySem.W.takesIn K (.builtin "object.__class__") = some true) && (decide (PySem.W.mroIn K c (.type "object") = some true) &&
  (decide (PySem.W.kitOne K (.ref c) (.ref c) = some true) &&
  (decide (PySem.W.findIn K (.ref c) "__eq__" = some (some (.ref e))) && (PySem.W.isFn K (.ref e) &&
  (decide (PySem.W.findIn K (.ref c) "__ne__" = some (some (.builtin "object.__ne__"))) &&
  (PySem.W.notFirst K c (.type "tuple") && decide (PySem.W.kitOne K (.type "tuple") (.ref c) = some false))))))))))))))))))
structure KCl (K : PySem.W.Frag) (c i e : Addr) (fs : List Str) : Prop where
  cls : Cls K c
  no : ∀ f ∈ fs, NoAttr K c f
  mks : Mk K c i
  isi : IsCls K c
  own : OwnC K c e
  nf : PySem.W.notFirst K c (.type "tuple") = true
  kt : PySem.W.kitOne K (.type "tuple") (.ref c) = some false
theorem okC_ok {K : PySem.W.Frag} {c i e : Addr} {fs : List Str} (h : okC K c i e fs = true) : KCl K c i e fs := by
  unfold okC at h
  simp only [Bool.and_eq_true, decide_eq_true_eq, List.all_eq_true] at h
  obtain ⟨h1, h2, h3, h4, h5, h6, h7, h8, h9, h10, h11, h12, h13, h14, h15, h16, h17, h18, h19⟩ := h
  have C : Cls K c := ⟨h1, h2, h3, h4⟩
  exact ⟨C, fun f hf => h5 f hf, ⟨h6, h7, h8, h9⟩, ⟨C, h10, h11, h12, h13, h14⟩, ⟨h15, h16, h17, h13⟩, h18, h19⟩
theorem all3 {α : Type} {P : α → Prop} {x y z : α} (a : P x) (b : P y) (c : P z) : ∀ p ∈ [x, y, z], P p := fun p hp => by
  simp only [List.mem_cons, List.not_mem_nil, or_false] at hp
  rcases hp with rfl | rfl | rfl <;> assumption
theorem all_mk {l : PySem.W.OpenLaw} {w : World} {K : PySem.W.Frag} {h : Heap} {mg : Str → Option Value} {fa : Addr} (X : K.In h)
    (G : h.Ns mainGlobals mg) (hfa : mg "law" = some (.ref fa))
    {f_is_integer f_is_number f_is_tuple_of f_seen f_tally f_tally_sum f_tally_length f_greatest_number f_split_sums f_tally_bars f_tallies_bar f_tally_fault f_tallies_fault f_row_fault f_sides_fault f_wanted_row f_kind_rows f_kind_fault f_plan_fault f_is_plan_fault f_rows_bar f__law_draw f__law_any f__law_of f__law_links f__law_network f__law_sight f__law_other f__law_tangle f__law_plan f__law_row_due f__law_sides_due f__law_rows f__law_fault f__law_bars f__law_bent f__law_right f_law c_KINDS k_KINDS0 k_KINDS1 k_KINDS2 k_KINDS3 k_KINDS4 k_KINDS5 k_KINDS6 k_KINDS7 k_KINDS8 k_KINDS9 : Addr} {t_MOST_MODES : Tok}
    (g_KINDS : PySem.W.nsIn K mainGlobals "KINDS" = some (some (.ref c_KINDS)))
    (lt_KINDS : ∃ od n os, K.lookup c_KINDS = some ⟨.type "tuple", od, .seq #[.ref k_KINDS0, .ref k_KINDS1, .ref k_KINDS2, .ref k_KINDS3, .ref k_KINDS4, .ref k_KINDS5, .ref k_KINDS6, .ref k_KINDS7, .ref k_KINDS8, .ref k_KINDS9] n, os⟩)
    (lp_KINDS0 : ∃ od t1 t2 n os, K.lookup k_KINDS0 = some ⟨.type "tuple", od, .seq #[.int 0 t1, .int 0 t2] n, os⟩)
    (lp_KINDS1 : ∃ od t1 t2 n os, K.lookup k_KINDS1 = some ⟨.type "tuple", od, .seq #[.int 0 t1, .int 1 t2] n, os⟩)
    (lp_KINDS2 : ∃ od t1 t2 n os, K.lookup k_KINDS2 = some ⟨.type "tuple", od, .seq #[.int 0 t1, .int 2 t2] n, os⟩)
    (lp_KINDS3 : ∃ od t1 t2 n os, K.lookup k_KINDS3 = some ⟨.type "tuple", od, .seq #[.int 0 t1, .int 3 t2] n, os⟩)
    (lp_KINDS4 : ∃ od t1 t2 n os, K.lookup k_KINDS4 = some ⟨.type "tuple", od, .seq #[.int 1 t1, .int 1 t2] n, os⟩)
    (lp_KINDS5 : ∃ od t1 t2 n os, K.lookup k_KINDS5 = some ⟨.type "tuple", od, .seq #[.int 1 t1, .int 2 t2] n, os⟩)
    (lp_KINDS6 : ∃ od t1 t2 n os, K.lookup k_KINDS6 = some ⟨.type "tuple", od, .seq #[.int 1 t1, .int 3 t2] n, os⟩)
    (lp_KINDS7 : ∃ od t1 t2 n os, K.lookup k_KINDS7 = some ⟨.type "tuple", od, .seq #[.int 2 t1, .int 2 t2] n, os⟩)
    (lp_KINDS8 : ∃ od t1 t2 n os, K.lookup k_KINDS8 = some ⟨.type "tuple", od, .seq #[.int 2 t1, .int 3 t2] n, os⟩)
    (lp_KINDS9 : ∃ od t1 t2 n os, K.lookup k_KINDS9 = some ⟨.type "tuple", od, .seq #[.int 3 t1, .int 3 t2] n, os⟩)
    (g_MOST_MODES : PySem.W.nsIn K mainGlobals "MOST_MODES" = some (some (.int 4 t_MOST_MODES)))
    (g_is_integer : PySem.W.nsIn K mainGlobals "is_integer" = some (some (.ref f_is_integer)))
    (e_is_integer : DefAt K "is_integer" "is_integer" s_is_integer f_is_integer)
    (k_is_integer : PySem.W.keepIn K (.ref f_is_integer) = true)
    (g_is_number : PySem.W.nsIn K mainGlobals "is_number" = some (some (.ref f_is_number)))
    (e_is_number : DefAt K "is_number" "is_number" s_is_number f_is_number)
    (k_is_number : PySem.W.keepIn K (.ref f_is_number) = true)
    (g_is_tuple_of : PySem.W.nsIn K mainGlobals "is_tuple_of" = some (some (.ref f_is_tuple_of)))
    (e_is_tuple_of : DefAt K "is_tuple_of" "is_tuple_of" s_is_tuple_of f_is_tuple_of)
    (k_is_tuple_of : PySem.W.keepIn K (.ref f_is_tuple_of) = true)
    (g_seen : PySem.W.nsIn K mainGlobals "seen" = some (some (.ref f_seen)))
    (e_seen : DefAt K "seen" "seen" s_seen f_seen)
    (k_seen : PySem.W.keepIn K (.ref f_seen) = true)
    (g_tally : PySem.W.nsIn K mainGlobals "tally" = some (some (.ref f_tally)))
    (e_tally : DefAt K "tally" "tally" s_tally f_tally)
    (k_tally : PySem.W.keepIn K (.ref f_tally) = true)
    (g_tally_sum : PySem.W.nsIn K mainGlobals "tally_sum" = some (some (.ref f_tally_sum)))
    (e_tally_sum : DefAt K "tally_sum" "tally_sum" s_tally_sum f_tally_sum)
    (k_tally_sum : PySem.W.keepIn K (.ref f_tally_sum) = true)
    (g_tally_length : PySem.W.nsIn K mainGlobals "tally_length" = some (some (.ref f_tally_length)))
    (e_tally_length : DefAt K "tally_length" "tally_length" s_tally_length f_tally_length)
    (k_tally_length : PySem.W.keepIn K (.ref f_tally_length) = true)
    (g_greatest_number : PySem.W.nsIn K mainGlobals "greatest_number" = some (some (.ref f_greatest_number)))
    (e_greatest_number : DefAt K "greatest_number" "greatest_number" s_greatest_number f_greatest_number)
    (k_greatest_number : PySem.W.keepIn K (.ref f_greatest_number) = true)
    (g_split_sums : PySem.W.nsIn K mainGlobals "split_sums" = some (some (.ref f_split_sums)))
    (e_split_sums : DefAt K "split_sums" "split_sums" s_split_sums f_split_sums)
    (k_split_sums : PySem.W.keepIn K (.ref f_split_sums) = true)
    (g_tally_bars : PySem.W.nsIn K mainGlobals "tally_bars" = some (some (.ref f_tally_bars)))
    (e_tally_bars : DefAt K "tally_bars" "tally_bars" s_tally_bars f_tally_bars)
    (k_tally_bars : PySem.W.keepIn K (.ref f_tally_bars) = true)
    (g_tallies_bar : PySem.W.nsIn K mainGlobals "tallies_bar" = some (some (.ref f_tallies_bar)))
    (e_tallies_bar : DefAt K "tallies_bar" "tallies_bar" s_tallies_bar f_tallies_bar)
    (k_tallies_bar : PySem.W.keepIn K (.ref f_tallies_bar) = true)
    (g_tally_fault : PySem.W.nsIn K mainGlobals "tally_fault" = some (some (.ref f_tally_fault)))
    (e_tally_fault : DefAt K "tally_fault" "tally_fault" s_tally_fault f_tally_fault)
    (k_tally_fault : PySem.W.keepIn K (.ref f_tally_fault) = true)
    (g_tallies_fault : PySem.W.nsIn K mainGlobals "tallies_fault" = some (some (.ref f_tallies_fault)))
    (e_tallies_fault : DefAt K "tallies_fault" "tallies_fault" s_tallies_fault f_tallies_fault)
    (k_tallies_fault : PySem.W.keepIn K (.ref f_tallies_fault) = true)
    (g_row_fault : PySem.W.nsIn K mainGlobals "row_fault" = some (some (.ref f_row_fault)))
    (e_row_fault : DefAt K "row_fault" "row_fault" s_row_fault f_row_fault)
    (k_row_fault : PySem.W.keepIn K (.ref f_row_fault) = true)
    (g_sides_fault : PySem.W.nsIn K mainGlobals "sides_fault" = some (some (.ref f_sides_fault)))
    (e_sides_fault : DefAt K "sides_fault" "sides_fault" s_sides_fault f_sides_fault)
    (k_sides_fault : PySem.W.keepIn K (.ref f_sides_fault) = true)
    (g_wanted_row : PySem.W.nsIn K mainGlobals "wanted_row" = some (some (.ref f_wanted_row)))
    (e_wanted_row : DefAt K "wanted_row" "wanted_row" s_wanted_row f_wanted_row)
    (k_wanted_row : PySem.W.keepIn K (.ref f_wanted_row) = true)
    (g_kind_rows : PySem.W.nsIn K mainGlobals "kind_rows" = some (some (.ref f_kind_rows)))
    (e_kind_rows : DefAt K "kind_rows" "kind_rows" s_kind_rows f_kind_rows)
    (k_kind_rows : PySem.W.keepIn K (.ref f_kind_rows) = true)
    (g_kind_fault : PySem.W.nsIn K mainGlobals "kind_fault" = some (some (.ref f_kind_fault)))
    (e_kind_fault : DefAt K "kind_fault" "kind_fault" s_kind_fault f_kind_fault)
    (k_kind_fault : PySem.W.keepIn K (.ref f_kind_fault) = true)
    (g_plan_fault : PySem.W.nsIn K mainGlobals "plan_fault" = some (some (.ref f_plan_fault)))
    (e_plan_fault : DefAt K "plan_fault" "plan_fault" s_plan_fault f_plan_fault)
    (k_plan_fault : PySem.W.keepIn K (.ref f_plan_fault) = true)
    (g_is_plan_fault : PySem.W.nsIn K mainGlobals "is_plan_fault" = some (some (.ref f_is_plan_fault)))
    (e_is_plan_fault : DefAt K "is_plan_fault" "is_plan_fault" s_is_plan_fault f_is_plan_fault)
    (k_is_plan_fault : PySem.W.keepIn K (.ref f_is_plan_fault) = true)
    (g_rows_bar : PySem.W.nsIn K mainGlobals "rows_bar" = some (some (.ref f_rows_bar)))
    (e_rows_bar : DefAt K "rows_bar" "rows_bar" s_rows_bar f_rows_bar)
    (k_rows_bar : PySem.W.keepIn K (.ref f_rows_bar) = true)
    (g__law_draw : PySem.W.nsIn K mainGlobals "_law_draw" = some (some (.ref f__law_draw)))
    (e__law_draw : DefAt K "_law_draw" "_law_draw" s__law_draw f__law_draw)
    (k__law_draw : PySem.W.keepIn K (.ref f__law_draw) = true)
    (g__law_any : PySem.W.nsIn K mainGlobals "_law_any" = some (some (.ref f__law_any)))
    (e__law_any : DefAt K "_law_any" "_law_any" s__law_any f__law_any)
    (k__law_any : PySem.W.keepIn K (.ref f__law_any) = true)
    (g__law_of : PySem.W.nsIn K mainGlobals "_law_of" = some (some (.ref f__law_of)))
    (e__law_of : DefAt K "_law_of" "_law_of" s__law_of f__law_of)
    (k__law_of : PySem.W.keepIn K (.ref f__law_of) = true)
    (g__law_links : PySem.W.nsIn K mainGlobals "_law_links" = some (some (.ref f__law_links)))
    (e__law_links : DefAt K "_law_links" "_law_links" s__law_links f__law_links)
    (k__law_links : PySem.W.keepIn K (.ref f__law_links) = true)
    (g__law_network : PySem.W.nsIn K mainGlobals "_law_network" = some (some (.ref f__law_network)))
    (e__law_network : DefAt K "_law_network" "_law_network" s__law_network f__law_network)
    (k__law_network : PySem.W.keepIn K (.ref f__law_network) = true)
    (g__law_sight : PySem.W.nsIn K mainGlobals "_law_sight" = some (some (.ref f__law_sight)))
    (e__law_sight : DefAt K "_law_sight" "_law_sight" s__law_sight f__law_sight)
    (k__law_sight : PySem.W.keepIn K (.ref f__law_sight) = true)
    (g__law_other : PySem.W.nsIn K mainGlobals "_law_other" = some (some (.ref f__law_other)))
    (e__law_other : DefAt K "_law_other" "_law_other" s__law_other f__law_other)
    (k__law_other : PySem.W.keepIn K (.ref f__law_other) = true)
    (g__law_tangle : PySem.W.nsIn K mainGlobals "_law_tangle" = some (some (.ref f__law_tangle)))
    (e__law_tangle : DefAt K "_law_tangle" "_law_tangle" s__law_tangle f__law_tangle)
    (k__law_tangle : PySem.W.keepIn K (.ref f__law_tangle) = true)
    (g__law_plan : PySem.W.nsIn K mainGlobals "_law_plan" = some (some (.ref f__law_plan)))
    (e__law_plan : DefAt K "_law_plan" "_law_plan" s__law_plan f__law_plan)
    (k__law_plan : PySem.W.keepIn K (.ref f__law_plan) = true)
    (g__law_row_due : PySem.W.nsIn K mainGlobals "_law_row_due" = some (some (.ref f__law_row_due)))
    (e__law_row_due : DefAt K "_law_row_due" "_law_row_due" s__law_row_due f__law_row_due)
    (k__law_row_due : PySem.W.keepIn K (.ref f__law_row_due) = true)
    (g__law_sides_due : PySem.W.nsIn K mainGlobals "_law_sides_due" = some (some (.ref f__law_sides_due)))
    (e__law_sides_due : DefAt K "_law_sides_due" "_law_sides_due" s__law_sides_due f__law_sides_due)
    (k__law_sides_due : PySem.W.keepIn K (.ref f__law_sides_due) = true)
    (g__law_rows : PySem.W.nsIn K mainGlobals "_law_rows" = some (some (.ref f__law_rows)))
    (e__law_rows : DefAt K "_law_rows" "_law_rows" s__law_rows f__law_rows)
    (k__law_rows : PySem.W.keepIn K (.ref f__law_rows) = true)
    (g__law_fault : PySem.W.nsIn K mainGlobals "_law_fault" = some (some (.ref f__law_fault)))
    (e__law_fault : DefAt K "_law_fault" "_law_fault" s__law_fault f__law_fault)
    (k__law_fault : PySem.W.keepIn K (.ref f__law_fault) = true)
    (g__law_bars : PySem.W.nsIn K mainGlobals "_law_bars" = some (some (.ref f__law_bars)))
    (e__law_bars : DefAt K "_law_bars" "_law_bars" s__law_bars f__law_bars)
    (k__law_bars : PySem.W.keepIn K (.ref f__law_bars) = true)
    (g__law_bent : PySem.W.nsIn K mainGlobals "_law_bent" = some (some (.ref f__law_bent)))
    (e__law_bent : DefAt K "_law_bent" "_law_bent" s__law_bent f__law_bent)
    (k__law_bent : PySem.W.keepIn K (.ref f__law_bent) = true)
    (g__law_right : PySem.W.nsIn K mainGlobals "_law_right" = some (some (.ref f__law_right)))
    (e__law_right : DefAt K "_law_right" "_law_right" s__law_right f__law_right)
    (k__law_right : PySem.W.keepIn K (.ref f__law_right) = true)
    (g_law : PySem.W.nsIn K mainGlobals "law" = some (some (.ref f_law)))
    (e_law : DefAt K "law" "law" s_law f_law)
    (k_law : PySem.W.keepIn K (.ref f_law) = true)
    (z_int : PySem.W.nsIn K mainGlobals "int" = some none)
    (z_bool : PySem.W.nsIn K mainGlobals "bool" = some none)
    (z_abs : PySem.W.nsIn K mainGlobals "abs" = some none)
    (z_len : PySem.W.nsIn K mainGlobals "len" = some none)
    (z_min : PySem.W.nsIn K mainGlobals "min" = some none)
    (z_max : PySem.W.nsIn K mainGlobals "max" = some none)
    (z_sorted : PySem.W.nsIn K mainGlobals "sorted" = some none)
    (z_tuple : PySem.W.nsIn K mainGlobals "tuple" = some none)
    (z_list : PySem.W.nsIn K mainGlobals "list" = some none)
    (z_range : PySem.W.nsIn K mainGlobals "range" = some none)
    (z_repr : PySem.W.nsIn K mainGlobals "repr" = some none)
    (z_isinstance : PySem.W.nsIn K mainGlobals "isinstance" = some none)
    (z_enumerate : PySem.W.nsIn K mainGlobals "enumerate" = some none)
    (z_all : PySem.W.nsIn K mainGlobals "all" = some none)
    (z_sum : PySem.W.nsIn K mainGlobals "sum" = some none)
    (z_str : PySem.W.nsIn K mainGlobals "str" = some none)
    : ∃ fd : FuncData, (∀ (s : Shared) (u : Value), BindsTo s fd ⟨[u], []⟩ [("_law_script", u)]) ∧
      ∀ base : Heap, K.In base → base.Ns mainGlobals mg → FnR l.prog w K mg base CX0 (CG 13) fa fd ["_law_script"] (spLaw K) := by
  have e := hfa.symm.trans (PySem.W.mg_of X G g_law)
  cases e
  obtain ⟨d_is_integer, _, _, _, _, _, _, _, F_is_integer⟩ := fun_of e_is_integer k_is_integer
  obtain ⟨d_is_number, _, _, _, _, _, _, _, F_is_number⟩ := fun_of e_is_number k_is_number
  obtain ⟨d_is_tuple_of, _, _, _, _, _, _, _, F_is_tuple_of⟩ := fun_of e_is_tuple_of k_is_tuple_of
  obtain ⟨d_seen, _, _, _, _, _, _, _, F_seen⟩ := fun_of e_seen k_seen
  obtain ⟨d_tally, _, _, _, _, _, _, _, F_tally⟩ := fun_of e_tally k_tally
  obtain ⟨d_tally_sum, _, _, _, _, _, _, _, F_tally_sum⟩ := fun_of e_tally_sum k_tally_sum
  obtain ⟨d_tally_length, _, _, _, _, _, _, _, F_tally_length⟩ := fun_of e_tally_length k_tally_length
  obtain ⟨d_greatest_number, _, _, _, _, _, _, _, F_greatest_number⟩ := fun_of e_greatest_number k_greatest_number
  obtain ⟨d_split_sums, _, _, _, _, _, _, _, F_split_sums⟩ := fun_of e_split_sums k_split_sums
  obtain ⟨d_tally_bars, _, _, _, _, _, _, _, F_tally_bars⟩ := fun_of e_tally_bars k_tally_bars
  obtain ⟨d_tallies_bar, _, _, _, _, _, _, _, F_tallies_bar⟩ := fun_of e_tallies_bar k_tallies_bar
  obtain ⟨d_tally_fault, _, _, _, _, _, _, _, F_tally_fault⟩ := fun_of e_tally_fault k_tally_fault
  obtain ⟨d_tallies_fault, _, _, _, _, _, _, _, F_tallies_fault⟩ := fun_of e_tallies_fault k_tallies_fault
  obtain ⟨d_row_fault, _, _, _, _, _, _, _, F_row_fault⟩ := fun_of e_row_fault k_row_fault
  obtain ⟨d_sides_fault, _, _, _, _, _, _, _, F_sides_fault⟩ := fun_of e_sides_fault k_sides_fault
  obtain ⟨d_wanted_row, _, _, _, _, _, _, _, F_wanted_row⟩ := fun_of e_wanted_row k_wanted_row
  obtain ⟨d_kind_rows, _, _, _, _, _, _, _, F_kind_rows⟩ := fun_of e_kind_rows k_kind_rows
  obtain ⟨d_kind_fault, _, _, _, _, _, _, _, F_kind_fault⟩ := fun_of e_kind_fault k_kind_fault
  obtain ⟨d_plan_fault, _, _, _, _, _, _, _, F_plan_fault⟩ := fun_of e_plan_fault k_plan_fault
  obtain ⟨d_is_plan_fault, _, _, _, _, _, _, _, F_is_plan_fault⟩ := fun_of e_is_plan_fault k_is_plan_fault
  obtain ⟨d_rows_bar, _, _, _, _, _, _, _, F_rows_bar⟩ := fun_of e_rows_bar k_rows_bar
  obtain ⟨d__law_draw, _, _, _, _, _, _, _, F__law_draw⟩ := fun_of e__law_draw k__law_draw
  obtain ⟨d__law_any, _, _, _, _, _, _, _, F__law_any⟩ := fun_of e__law_any k__law_any
  obtain ⟨d__law_of, _, _, _, _, _, _, _, F__law_of⟩ := fun_of e__law_of k__law_of
  obtain ⟨d__law_links, _, _, _, _, _, _, _, F__law_links⟩ := fun_of e__law_links k__law_links
  obtain ⟨d__law_network, _, _, _, _, _, _, _, F__law_network⟩ := fun_of e__law_network k__law_network
  obtain ⟨d__law_sight, _, _, _, _, _, _, _, F__law_sight⟩ := fun_of e__law_sight k__law_sight
  obtain ⟨d__law_other, _, _, _, _, _, _, _, F__law_other⟩ := fun_of e__law_other k__law_other
  obtain ⟨d__law_tangle, _, _, _, _, _, _, _, F__law_tangle⟩ := fun_of e__law_tangle k__law_tangle
  obtain ⟨d__law_plan, _, _, _, _, _, _, _, F__law_plan⟩ := fun_of e__law_plan k__law_plan
  obtain ⟨d__law_row_due, _, _, _, _, _, _, _, F__law_row_due⟩ := fun_of e__law_row_due k__law_row_due
  obtain ⟨d__law_sides_due, _, _, _, _, _, _, _, F__law_sides_due⟩ := fun_of e__law_sides_due k__law_sides_due
  obtain ⟨d__law_rows, _, _, _, _, _, _, _, F__law_rows⟩ := fun_of e__law_rows k__law_rows
  obtain ⟨d__law_fault, _, _, _, _, _, _, _, F__law_fault⟩ := fun_of e__law_fault k__law_fault
  obtain ⟨d__law_bars, _, _, _, _, _, _, _, F__law_bars⟩ := fun_of e__law_bars k__law_bars
  obtain ⟨d__law_bent, _, _, _, _, _, _, _, F__law_bent⟩ := fun_of e__law_bent k__law_bent
  obtain ⟨d__law_right, _, _, _, _, _, _, _, F__law_right⟩ := fun_of e__law_right k__law_right
  obtain ⟨d_law, u1, u2, u3, u4, u5, u6, eu, F_law⟩ := fun_of e_law k_law
  let T : TX K mg := {
    f_is_integer := f_is_integer, d_is_integer := d_is_integer, F_is_integer := F_is_integer, m_is_integer := PySem.W.mg_of X G g_is_integer,
    f_is_number := f_is_number, d_is_number := d_is_number, F_is_number := F_is_number, m_is_number := PySem.W.mg_of X G g_is_number,
    f_is_tuple_of := f_is_tuple_of, d_is_tuple_of := d_is_tuple_of, F_is_tuple_of := F_is_tuple_of, m_is_tuple_of := PySem.W.mg_of X G g_is_tuple_of,
    f_seen := f_seen, d_seen := d_seen, F_seen := F_seen, m_seen := PySem.W.mg_of X G g_seen,
    f_tally := f_tally, d_tally := d_tally, F_tally := F_tally, m_tally := PySem.W.mg_of X G g_tally,
    f_tally_sum := f_tally_sum, d_tally_sum := d_tally_sum, F_tally_sum := F_tally_sum, m_tally_sum := PySem.W.mg_of X G g_tally_sum,
    f_tally_length := f_tally_length, d_tally_length := d_tally_length, F_tally_length := F_tally_length, m_tally_length := PySem.W.mg_of X G g_tally_length,
    f_greatest_number := f_greatest_number, d_greatest_number := d_greatest_number, F_greatest_number := F_greatest_number, m_greatest_number := PySem.W.mg_of X G g_greatest_number,
    f_split_sums := f_split_sums, d_split_sums := d_split_sums, F_split_sums := F_split_sums, m_split_sums := PySem.W.mg_of X G g_split_sums,
    f_tally_bars := f_tally_bars, d_tally_bars := d_tally_bars, F_tally_bars := F_tally_bars, m_tally_bars := PySem.W.mg_of X G g_tally_bars,
    f_tallies_bar := f_tallies_bar, d_tallies_bar := d_tallies_bar, F_tallies_bar := F_tallies_bar, m_tallies_bar := PySem.W.mg_of X G g_tallies_bar,
    f_tally_fault := f_tally_fault, d_tally_fault := d_tally_fault, F_tally_fault := F_tally_fault, m_tally_fault := PySem.W.mg_of X G g_tally_fault,
    f_tallies_fault := f_tallies_fault, d_tallies_fault := d_tallies_fault, F_tallies_fault := F_tallies_fault, m_tallies_fault := PySem.W.mg_of X G g_tallies_fault,
    f_row_fault := f_row_fault, d_row_fault := d_row_fault, F_row_fault := F_row_fault, m_row_fault := PySem.W.mg_of X G g_row_fault,
    f_sides_fault := f_sides_fault, d_sides_fault := d_sides_fault, F_sides_fault := F_sides_fault, m_sides_fault := PySem.W.mg_of X G g_sides_fault,
    f_wanted_row := f_wanted_row, d_wanted_row := d_wanted_row, F_wanted_row := F_wanted_row, m_wanted_row := PySem.W.mg_of X G g_wanted_row,
    f_kind_rows := f_kind_rows, d_kind_rows := d_kind_rows, F_kind_rows := F_kind_rows, m_kind_rows := PySem.W.mg_of X G g_kind_rows,
    f_kind_fault := f_kind_fault, d_kind_fault := d_kind_fault, F_kind_fault := F_kind_fault, m_kind_fault := PySem.W.mg_of X G g_kind_fault,
    f_plan_fault := f_plan_fault, d_plan_fault := d_plan_fault, F_plan_fault := F_plan_fault, m_plan_fault := PySem.W.mg_of X G g_plan_fault,
    f_is_plan_fault := f_is_plan_fault, d_is_plan_fault := d_is_plan_fault, F_is_plan_fault := F_is_plan_fault, m_is_plan_fault := PySem.W.mg_of X G g_is_plan_fault,
    f_rows_bar := f_rows_bar, d_rows_bar := d_rows_bar, F_rows_bar := F_rows_bar, m_rows_bar := PySem.W.mg_of X G g_rows_bar,
    f__law_draw := f__law_draw, d__law_draw := d__law_draw, F__law_draw := F__law_draw, m__law_draw := PySem.W.mg_of X G g__law_draw,
    f__law_any := f__law_any, d__law_any := d__law_any, F__law_any := F__law_any, m__law_any := PySem.W.mg_of X G g__law_any,
    f__law_of := f__law_of, d__law_of := d__law_of, F__law_of := F__law_of, m__law_of := PySem.W.mg_of X G g__law_of,
    f__law_links := f__law_links, d__law_links := d__law_links, F__law_links := F__law_links, m__law_links := PySem.W.mg_of X G g__law_links,
    f__law_network := f__law_network, d__law_network := d__law_network, F__law_network := F__law_network, m__law_network := PySem.W.mg_of X G g__law_network,
    f__law_sight := f__law_sight, d__law_sight := d__law_sight, F__law_sight := F__law_sight, m__law_sight := PySem.W.mg_of X G g__law_sight,
    f__law_other := f__law_other, d__law_other := d__law_other, F__law_other := F__law_other, m__law_other := PySem.W.mg_of X G g__law_other,
    f__law_tangle := f__law_tangle, d__law_tangle := d__law_tangle, F__law_tangle := F__law_tangle, m__law_tangle := PySem.W.mg_of X G g__law_tangle,
    f__law_plan := f__law_plan, d__law_plan := d__law_plan, F__law_plan := F__law_plan, m__law_plan := PySem.W.mg_of X G g__law_plan,
    f__law_row_due := f__law_row_due, d__law_row_due := d__law_row_due, F__law_row_due := F__law_row_due, m__law_row_due := PySem.W.mg_of X G g__law_row_due,
    f__law_sides_due := f__law_sides_due, d__law_sides_due := d__law_sides_due, F__law_sides_due := F__law_sides_due, m__law_sides_due := PySem.W.mg_of X G g__law_sides_due,
    f__law_rows := f__law_rows, d__law_rows := d__law_rows, F__law_rows := F__law_rows, m__law_rows := PySem.W.mg_of X G g__law_rows,
    f__law_fault := f__law_fault, d__law_fault := d__law_fault, F__law_fault := F__law_fault, m__law_fault := PySem.W.mg_of X G g__law_fault,
    f__law_bars := f__law_bars, d__law_bars := d__law_bars, F__law_bars := F__law_bars, m__law_bars := PySem.W.mg_of X G g__law_bars,
    f__law_bent := f__law_bent, d__law_bent := d__law_bent, F__law_bent := F__law_bent, m__law_bent := PySem.W.mg_of X G g__law_bent,
    f__law_right := f__law_right, d__law_right := d__law_right, F__law_right := F__law_right, m__law_right := PySem.W.mg_of X G g__law_right,
    f_law := fa, d_law := d_law, F_law := F_law, m_law := PySem.W.mg_of X G g_law,
    n_int := PySem.W.mg_none_of X G z_int,
    n_bool := PySem.W.mg_none_of X G z_bool,
    n_abs := PySem.W.mg_none_of X G z_abs,
    n_len := PySem.W.mg_none_of X G z_len,
    n_min := PySem.W.mg_none_of X G z_min,
    n_max := PySem.W.mg_none_of X G z_max,
    n_sorted := PySem.W.mg_none_of X G z_sorted,
    n_tuple := PySem.W.mg_none_of X G z_tuple,
    n_list := PySem.W.mg_none_of X G z_list,
    n_range := PySem.W.mg_none_of X G z_range,
    n_repr := PySem.W.mg_none_of X G z_repr,
    n_isinstance := PySem.W.mg_none_of X G z_isinstance,
    n_enumerate := PySem.W.mg_none_of X G z_enumerate,
    n_all := PySem.W.mg_none_of X G z_all,
    n_sum := PySem.W.mg_none_of X G z_sum,
    n_str := PySem.W.mg_none_of X G z_str,
    c_KINDS := c_KINDS, m_KINDS := PySem.W.mg_of X G g_KINDS, S_KINDS := ⟨[k_KINDS0, k_KINDS1, k_KINDS2, k_KINDS3, k_KINDS4, k_KINDS5, k_KINDS6, k_KINDS7, k_KINDS8, k_KINDS9], (fun H => by obtain ⟨od, n, os, l⟩ := lt_KINDS; exact .inr ⟨_, _, _, l, rfl, rfl, by show 10 ≤ sizeLine; decide, (.cons rfl (.cons rfl (.cons rfl (.cons rfl (.cons rfl (.cons rfl (.cons rfl (.cons rfl (.cons rfl (.cons rfl .nil))))))))))⟩), (.cons (fun H => by obtain ⟨od, t1, t2, n, os, l⟩ := lp_KINDS0; exact .inr ⟨_, _, _, l, rfl, rfl, by show 2 ≤ sizeLine; decide, .cons ⟨t1, rfl⟩ (.cons ⟨t2, rfl⟩ .nil)⟩) (.cons (fun H => by obtain ⟨od, t1, t2, n, os, l⟩ := lp_KINDS1; exact .inr ⟨_, _, _, l, rfl, rfl, by show 2 ≤ sizeLine; decide, .cons ⟨t1, rfl⟩ (.cons ⟨t2, rfl⟩ .nil)⟩) (.cons (fun H => by obtain ⟨od, t1, t2, n, os, l⟩ := lp_KINDS2; exact .inr ⟨_, _, _, l, rfl, rfl, by show 2 ≤ sizeLine; decide, .cons ⟨t1, rfl⟩ (.cons ⟨t2, rfl⟩ .nil)⟩) (.cons (fun H => by obtain ⟨od, t1, t2, n, os, l⟩ := lp_KINDS3; exact .inr ⟨_, _, _, l, rfl, rfl, by show 2 ≤ sizeLine; decide, .cons ⟨t1, rfl⟩ (.cons ⟨t2, rfl⟩ .nil)⟩) (.cons (fun H => by obtain ⟨od, t1, t2, n, os, l⟩ := lp_KINDS4; exact .inr ⟨_, _, _, l, rfl, rfl, by show 2 ≤ sizeLine; decide, .cons ⟨t1, rfl⟩ (.cons ⟨t2, rfl⟩ .nil)⟩) (.cons (fun H => by obtain ⟨od, t1, t2, n, os, l⟩ := lp_KINDS5; exact .inr ⟨_, _, _, l, rfl, rfl, by show 2 ≤ sizeLine; decide, .cons ⟨t1, rfl⟩ (.cons ⟨t2, rfl⟩ .nil)⟩) (.cons (fun H => by obtain ⟨od, t1, t2, n, os, l⟩ := lp_KINDS6; exact .inr ⟨_, _, _, l, rfl, rfl, by show 2 ≤ sizeLine; decide, .cons ⟨t1, rfl⟩ (.cons ⟨t2, rfl⟩ .nil)⟩) (.cons (fun H => by obtain ⟨od, t1, t2, n, os, l⟩ := lp_KINDS7; exact .inr ⟨_, _, _, l, rfl, rfl, by show 2 ≤ sizeLine; decide, .cons ⟨t1, rfl⟩ (.cons ⟨t2, rfl⟩ .nil)⟩) (.cons (fun H => by obtain ⟨od, t1, t2, n, os, l⟩ := lp_KINDS8; exact .inr ⟨_, _, _, l, rfl, rfl, by show 2 ≤ sizeLine; decide, .cons ⟨t1, rfl⟩ (.cons ⟨t2, rfl⟩ .nil)⟩) (.cons (fun H => by obtain ⟨od, t1, t2, n, os, l⟩ := lp_KINDS9; exact .inr ⟨_, _, _, l, rfl, rfl, by show 2 ≤ sizeLine; decide, .cons ⟨t1, rfl⟩ (.cons ⟨t2, rfl⟩ .nil)⟩) .nil))))))))))⟩,
    t_MOST_MODES := t_MOST_MODES, m_MOST_MODES := PySem.W.mg_of X G g_MOST_MODES }
  refine ⟨d_law, fun s v => by rw [eu]; exact .of_eq rfl, fun base _ _ => ?_⟩
  exact G_law (P := l.prog) (w := w) (base := base) T 
end K10

open PySem PySem.W PyProof.Rows
set_option maxRecDepth 100000 in
set_option maxHeartbeats 0 in
theorem PySem.Challenge.cw_handalong_k10_plans_and_their_faults_holds : PySem.Challenge.rw_handalong_k10_plans_and_their_faults.Holds := by
  w_on; o_law; k_head; (case hw => w_witness2)
  k_fill
  refine KX.walk_ofG (l := PySem.Challenge.rw_handalong_k10_plans_and_their_faults) (n := 63) (k := 13) (x := "_law_script") (CX := L2.CX0) (sp := K10.spLaw)
    rfl (by decide) rfl ⟨rfl, by decide, by decide⟩ (fun w h Y => PySem.W.kIn_of Y) ?F (fun _ H a ns hl _ hS => ⟨a, ns, rfl, hS, fun _ => rfl⟩) fun _ _ _ _ z => z
  case F =>
    intro w mg fa h Y G hmg
    refine' K10.all_mk Y G hmg ?g_KINDS ?lt_KINDS ?lp_KINDS0 ?lp_KINDS1 ?lp_KINDS2 ?lp_KINDS3 ?lp_KINDS4 ?lp_KINDS5 ?lp_KINDS6 ?lp_KINDS7 ?lp_KINDS8 ?lp_KINDS9 ?g_MOST_MODES ?g_is_integer ?e_is_integer ?k_is_integer ?g_is_number ?e_is_number ?k_is_number ?g_is_tuple_of ?e_is_tuple_of ?k_is_tuple_of ?g_seen ?e_seen ?k_seen ?g_tally ?e_tally ?k_tally ?g_tally_sum ?e_tally_sum ?k_tally_sum ?g_tally_length ?e_tally_length ?k_tally_length ?g_greatest_number ?e_greatest_number ?k_greatest_number ?g_split_sums ?e_split_sums ?k_split_sums ?g_tally_bars ?e_tally_bars ?k_tally_bars ?g_tallies_bar ?e_tallies_bar ?k_tallies_bar ?g_tally_fault ?e_tally_fault ?k_tally_fault ?g_tallies_fault ?e_tallies_fault ?k_tallies_fault ?g_row_fault ?e_row_fault ?k_row_fault ?g_sides_fault ?e_sides_fault ?k_sides_fault ?g_wanted_row ?e_wanted_row ?k_wanted_row ?g_kind_rows ?e_kind_rows ?k_kind_rows ?g_kind_fault ?e_kind_fault ?k_kind_fault ?g_plan_fault ?e_plan_fault ?k_plan_fault ?g_is_plan_fault ?e_is_plan_fault ?k_is_plan_fault ?g_rows_bar ?e_rows_bar ?k_rows_bar ?g__law_draw ?e__law_draw ?k__law_draw ?g__law_any ?e__law_any ?k__law_any ?g__law_of ?e__law_of ?k__law_of ?g__law_links ?e__law_links ?k__law_links ?g__law_network ?e__law_network ?k__law_network ?g__law_sight ?e__law_sight ?k__law_sight ?g__law_other ?e__law_other ?k__law_other ?g__law_tangle ?e__law_tangle ?k__law_tangle ?g__law_plan ?e__law_plan ?k__law_plan ?g__law_row_due ?e__law_row_due ?k__law_row_due ?g__law_sides_due ?e__law_sides_due ?k__law_sides_due ?g__law_rows ?e__law_rows ?k__law_rows ?g__law_fault ?e__law_fault ?k__law_fault ?g__law_bars ?e__law_bars ?k__law_bars ?g__law_bent ?e__law_bent ?k__law_bent ?g__law_right ?e__law_right ?k__law_right ?g_law ?e_law ?k_law ?z_int ?z_bool ?z_abs ?z_len ?z_min ?z_max ?z_sorted ?z_tuple ?z_list ?z_range ?z_repr ?z_isinstance ?z_enumerate ?z_all ?z_sum ?z_str
    (case g_KINDS => k_is)
    (case lt_KINDS => (refine' ⟨_, _, _, ?h1⟩; (case h1 => rfl)))
    (case lp_KINDS0 => (refine' ⟨_, _, _, _, _, ?h1⟩; (case h1 => rfl)))
    (case lp_KINDS1 => (refine' ⟨_, _, _, _, _, ?h1⟩; (case h1 => rfl)))
    (case lp_KINDS2 => (refine' ⟨_, _, _, _, _, ?h1⟩; (case h1 => rfl)))
    (case lp_KINDS3 => (refine' ⟨_, _, _, _, _, ?h1⟩; (case h1 => rfl)))
    (case lp_KINDS4 => (refine' ⟨_, _, _, _, _, ?h1⟩; (case h1 => rfl)))
    (case lp_KINDS5 => (refine' ⟨_, _, _, _, _, ?h1⟩; (case h1 => rfl)))
    (case lp_KINDS6 => (refine' ⟨_, _, _, _, _, ?h1⟩; (case h1 => rfl)))
    (case lp_KINDS7 => (refine' ⟨_, _, _, _, _, ?h1⟩; (case h1 => rfl)))
    (case lp_KINDS8 => (refine' ⟨_, _, _, _, _, ?h1⟩; (case h1 => rfl)))
    (case lp_KINDS9 => (refine' ⟨_, _, _, _, _, ?h1⟩; (case h1 => rfl)))
    (case g_MOST_MODES => k_is)
    (case g_is_integer => k_is)
    (case e_is_integer => (refine' ⟨_, _, _, _, _, _, _, _, _, ?h1, ?h2⟩; (case h1 => rfl); (case h2 => k_is)))
    (case k_is_integer => k_is)
    (case g_is_number => k_is)
    (case e_is_number => (refine' ⟨_, _, _, _, _, _, _, _, _, ?h1, ?h2⟩; (case h1 => rfl); (case h2 => k_is)))
    (case k_is_number => k_is)
    (case g_is_tuple_of => k_is)
    (case e_is_tuple_of => (refine' ⟨_, _, _, _, _, _, _, _, _, ?h1, ?h2⟩; (case h1 => rfl); (case h2 => k_is)))
    (case k_is_tuple_of => k_is)
    (case g_seen => k_is)
    (case e_seen => (refine' ⟨_, _, _, _, _, _, _, _, _, ?h1, ?h2⟩; (case h1 => rfl); (case h2 => k_is)))
    (case k_seen => k_is)
    (case g_tally => k_is)
    (case e_tally => (refine' ⟨_, _, _, _, _, _, _, _, _, ?h1, ?h2⟩; (case h1 => rfl); (case h2 => k_is)))
    (case k_tally => k_is)
    (case g_tally_sum => k_is)
    (case e_tally_sum => (refine' ⟨_, _, _, _, _, _, _, _, _, ?h1, ?h2⟩; (case h1 => rfl); (case h2 => k_is)))
    (case k_tally_sum => k_is)
    (case g_tally_length => k_is)
    (case e_tally_length => (refine' ⟨_, _, _, _, _, _, _, _, _, ?h1, ?h2⟩; (case h1 => rfl); (case h2 => k_is)))
    (case k_tally_length => k_is)
    (case g_greatest_number => k_is)
    (case e_greatest_number => (refine' ⟨_, _, _, _, _, _, _, _, _, ?h1, ?h2⟩; (case h1 => rfl); (case h2 => k_is)))
    (case k_greatest_number => k_is)
    (case g_split_sums => k_is)
    (case e_split_sums => (refine' ⟨_, _, _, _, _, _, _, _, _, ?h1, ?h2⟩; (case h1 => rfl); (case h2 => k_is)))
    (case k_split_sums => k_is)
    (case g_tally_bars => k_is)
    (case e_tally_bars => (refine' ⟨_, _, _, _, _, _, _, _, _, ?h1, ?h2⟩; (case h1 => rfl); (case h2 => k_is)))
    (case k_tally_bars => k_is)
    (case g_tallies_bar => k_is)
    (case e_tallies_bar => (refine' ⟨_, _, _, _, _, _, _, _, _, ?h1, ?h2⟩; (case h1 => rfl); (case h2 => k_is)))
    (case k_tallies_bar => k_is)
    (case g_tally_fault => k_is)
    (case e_tally_fault => (refine' ⟨_, _, _, _, _, _, _, _, _, ?h1, ?h2⟩; (case h1 => rfl); (case h2 => k_is)))
    (case k_tally_fault => k_is)
    (case g_tallies_fault => k_is)
    (case e_tallies_fault => (refine' ⟨_, _, _, _, _, _, _, _, _, ?h1, ?h2⟩; (case h1 => rfl); (case h2 => k_is)))
    (case k_tallies_fault => k_is)
    (case g_row_fault => k_is)
    (case e_row_fault => (refine' ⟨_, _, _, _, _, _, _, _, _, ?h1, ?h2⟩; (case h1 => rfl); (case h2 => k_is)))
    (case k_row_fault => k_is)
    (case g_sides_fault => k_is)
    (case e_sides_fault => (refine' ⟨_, _, _, _, _, _, _, _, _, ?h1, ?h2⟩; (case h1 => rfl); (case h2 => k_is)))
    (case k_sides_fault => k_is)
    (case g_wanted_row => k_is)
    (case e_wanted_row => (refine' ⟨_, _, _, _, _, _, _, _, _, ?h1, ?h2⟩; (case h1 => rfl); (case h2 => k_is)))
    (case k_wanted_row => k_is)
    (case g_kind_rows => k_is)
    (case e_kind_rows => (refine' ⟨_, _, _, _, _, _, _, _, _, ?h1, ?h2⟩; (case h1 => rfl); (case h2 => k_is)))
    (case k_kind_rows => k_is)
    (case g_kind_fault => k_is)
    (case e_kind_fault => (refine' ⟨_, _, _, _, _, _, _, _, _, ?h1, ?h2⟩; (case h1 => rfl); (case h2 => k_is)))
    (case k_kind_fault => k_is)
    (case g_plan_fault => k_is)
    (case e_plan_fault => (refine' ⟨_, _, _, _, _, _, _, _, _, ?h1, ?h2⟩; (case h1 => rfl); (case h2 => k_is)))
    (case k_plan_fault => k_is)
    (case g_is_plan_fault => k_is)
    (case e_is_plan_fault => (refine' ⟨_, _, _, _, _, _, _, _, _, ?h1, ?h2⟩; (case h1 => rfl); (case h2 => k_is)))
    (case k_is_plan_fault => k_is)
    (case g_rows_bar => k_is)
    (case e_rows_bar => (refine' ⟨_, _, _, _, _, _, _, _, _, ?h1, ?h2⟩; (case h1 => rfl); (case h2 => k_is)))
    (case k_rows_bar => k_is)
    (case g__law_draw => k_is)
    (case e__law_draw => (refine' ⟨_, _, _, _, _, _, _, _, _, ?h1, ?h2⟩; (case h1 => rfl); (case h2 => k_is)))
    (case k__law_draw => k_is)
    (case g__law_any => k_is)
    (case e__law_any => (refine' ⟨_, _, _, _, _, _, _, _, _, ?h1, ?h2⟩; (case h1 => rfl); (case h2 => k_is)))
    (case k__law_any => k_is)
    (case g__law_of => k_is)
    (case e__law_of => (refine' ⟨_, _, _, _, _, _, _, _, _, ?h1, ?h2⟩; (case h1 => rfl); (case h2 => k_is)))
    (case k__law_of => k_is)
    (case g__law_links => k_is)
    (case e__law_links => (refine' ⟨_, _, _, _, _, _, _, _, _, ?h1, ?h2⟩; (case h1 => rfl); (case h2 => k_is)))
    (case k__law_links => k_is)
    (case g__law_network => k_is)
    (case e__law_network => (refine' ⟨_, _, _, _, _, _, _, _, _, ?h1, ?h2⟩; (case h1 => rfl); (case h2 => k_is)))
    (case k__law_network => k_is)
    (case g__law_sight => k_is)
    (case e__law_sight => (refine' ⟨_, _, _, _, _, _, _, _, _, ?h1, ?h2⟩; (case h1 => rfl); (case h2 => k_is)))
    (case k__law_sight => k_is)
    (case g__law_other => k_is)
    (case e__law_other => (refine' ⟨_, _, _, _, _, _, _, _, _, ?h1, ?h2⟩; (case h1 => rfl); (case h2 => k_is)))
    (case k__law_other => k_is)
    (case g__law_tangle => k_is)
    (case e__law_tangle => (refine' ⟨_, _, _, _, _, _, _, _, _, ?h1, ?h2⟩; (case h1 => rfl); (case h2 => k_is)))
    (case k__law_tangle => k_is)
    (case g__law_plan => k_is)
    (case e__law_plan => (refine' ⟨_, _, _, _, _, _, _, _, _, ?h1, ?h2⟩; (case h1 => rfl); (case h2 => k_is)))
    (case k__law_plan => k_is)
    (case g__law_row_due => k_is)
    (case e__law_row_due => (refine' ⟨_, _, _, _, _, _, _, _, _, ?h1, ?h2⟩; (case h1 => rfl); (case h2 => k_is)))
    (case k__law_row_due => k_is)
    (case g__law_sides_due => k_is)
    (case e__law_sides_due => (refine' ⟨_, _, _, _, _, _, _, _, _, ?h1, ?h2⟩; (case h1 => rfl); (case h2 => k_is)))
    (case k__law_sides_due => k_is)
    (case g__law_rows => k_is)
    (case e__law_rows => (refine' ⟨_, _, _, _, _, _, _, _, _, ?h1, ?h2⟩; (case h1 => rfl); (case h2 => k_is)))
    (case k__law_rows => k_is)
    (case g__law_fault => k_is)
    (case e__law_fault => (refine' ⟨_, _, _, _, _, _, _, _, _, ?h1, ?h2⟩; (case h1 => rfl); (case h2 => k_is)))
    (case k__law_fault => k_is)
    (case g__law_bars => k_is)
    (case e__law_bars => (refine' ⟨_, _, _, _, _, _, _, _, _, ?h1, ?h2⟩; (case h1 => rfl); (case h2 => k_is)))
    (case k__law_bars => k_is)
    (case g__law_bent => k_is)
    (case e__law_bent => (refine' ⟨_, _, _, _, _, _, _, _, _, ?h1, ?h2⟩; (case h1 => rfl); (case h2 => k_is)))
    (case k__law_bent => k_is)
    (case g__law_right => k_is)
    (case e__law_right => (refine' ⟨_, _, _, _, _, _, _, _, _, ?h1, ?h2⟩; (case h1 => rfl); (case h2 => k_is)))
    (case k__law_right => k_is)
    (case g_law => k_is)
    (case e_law => (refine' ⟨_, _, _, _, _, _, _, _, _, ?h1, ?h2⟩; (case h1 => rfl); (case h2 => k_is)))
    (case k_law => k_is)
    (case z_int => k_is)
    (case z_bool => k_is)
    (case z_abs => k_is)
    (case z_len => k_is)
    (case z_min => k_is)
    (case z_max => k_is)
    (case z_sorted => k_is)
    (case z_tuple => k_is)
    (case z_list => k_is)
    (case z_range => k_is)
    (case z_repr => k_is)
    (case z_isinstance => k_is)
    (case z_enumerate => k_is)
    (case z_all => k_is)
    (case z_sum => k_is)
    (case z_str => k_is)
