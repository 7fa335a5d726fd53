import PyProof.Rows.All
import Wide.All
import OpenK.AllK
import Wide.FinOn
import HandS.ForExc
import HandS.HotCalls
import HandS.ExcField
import HandS.ExcIs
import HandS.RaiseMore
import HandS.Comp
import PyProof.ReprRoads
import KE.KExcIs
import HandS.IsInst
import HandS.Defaults
import HandS.Gcd
import HandS.Wide
import HandS.Style
import HandS.Flow
import HandS.Lambda
import HandS.TupLe
import HandS.TupAny
import HandS.SetFor
import HandS.Conv
import HandS.SlotsOwn
import PyProof.InstNe
import KE.GoesEnum
import HandS.Iter
import HandS.Walk
import HandS.Deep
import HandS.Sort
import HandS.SortRule
import HandS.MakeKw
import HandS.MakeKwOnly
import HandS.TryOnly
import KE.SortData
import KE.DatumOrd
import PySem.Challenge.RW_handalong_k65_weights_and_what_changes_a
import KE.KExcTry
import KE.KExcStr
set_option Elab.async false
set_option linter.all false
set_option maxRecDepth 100000
set_option maxHeartbeats 4000000
namespace KX
open PySem PySem.Spec PyProof.Rows L2
/-! repr of data -/
def rRepr (K : PySem.W.Frag) : List V → Hp → VK → Prop := fun xs H Q =>
  ∃ x d, xs = [x] ∧ Dp K H x d ∧ d.showable = true ∧ d.hasDict = false ∧ d.depth ≤ 64 ∧
    d.shown.length ≤ sizeLine ∧ Q (.str d.shown) H
theorem cr_repr {X : Cx} (hg : X.A.guards = some []) (hu : X.A.units + 66 < cLine) :
    CallR X (.builtin "repr") (rRepr X.K) := by
  intro pins s σ H xs us Q I r h
  obtain ⟨x, d, rfl, hd, hs, hn, h64, hz, q⟩ := h
  cases r with
  | cons rx rn =>
    cases rn
    rename_i u
    obtain ⟨as, rd⟩ := Dp.reads I d x u hd rx
    have hsm : d.hasDict = true → sysModules ∉ as := fun z => by rw [hn] at z; cases z
    have out : ∀ (h' : Heap) (tk : Nat) (t : Tok), (∀ b o, s.heap.get? b = some o → h'.get? b = some o) →
        EP X pins σ Q (.str d.shown t) { s with heap := h', toks := tk } := fun h' tk t k =>
      ⟨.str d.shown, H, I.kept k, ⟨t, rfl⟩, q⟩
    cases rd with
    | none => exact P.repr_of_none (out s.heap _ _ fun _ _ e => e)
    | bool b => exact P.repr_of_bool (by simpa only [PyData.shown] using out s.heap (s.toks + 1) s.toks fun _ _ e => e)
    | int i t =>
      exact P.repr_of_int (by simpa [PyData.showable] using hs)
        (by simpa only [PyData.shown] using out s.heap (s.toks + 1) s.toks fun _ _ e => e)
    | str z t =>
      exact P.repr_of_str (by simpa only [PyData.shown] using out s.heap (s.toks + 1) s.toks fun _ _ e => e)
        (by simpa only [PyData.shown] using hz)
    | list h1 h2 h3 h4 =>
      exact repr_of_reads' (.list h1 h2 h3 h4) hs hsm hg (by omega) (fun _ _ e => e)
        (fun h' u tk k => out h' tk u k) hz
    | tuple h1 h2 h3 h4 =>
      exact repr_of_reads' (.tuple h1 h2 h3 h4) hs hsm hg (by omega) (fun _ _ e => e)
        (fun h' u tk k => out h' tk u k) hz
    | dict h1 h2 h3 h4 h5 => cases hn
end KX

namespace PySem
namespace ErrX
open PySem.W PySem.Calls PyProof.Rows PySem.HandSPX
/-! ### the text of __init__ -/
def iA (p1 p2 : Pos) : Arguments := { posonlyargs := [], args := [{ arg := "self", annotation := none, pos := p1 }, { arg := "at", annotation := none, pos := p2 }], vararg := none, kwonlyargs := [], kw_defaults := [], kwarg := none, defaults := [] }
def iB (q1 q2 q3 q4 : Pos) : List Stmt := [.Assign [.Attribute (.Name "self" q1) "at" q2] (.Name "at" q3) q4]
def iS : Scope := { kind := .function, names := [(PySem.Str.ofString "self", .local), (PySem.Str.ofString "at", .local)], isGenerator := false, isCoroutine := false, more := [] }
/-- what the written part says of Low, at C, and of its __init__, at fI -/
structure ErrTxt (K : Frag) (mg : Str → Option Value) (en qn : Str) (C fI : Addr) : Prop where
  gC : mg en = some (.ref C)
  cls : ∃ nm q N bs bm sn sub ab col dd k0 k1 k2 k3 k5, K.lookup C = some (excClassObj nm q C N bs bm true sn sub ab col dd k0 k1 k2 k3 k5 "ValueError.__new__") ∧ refsVE bm = true
  sa : findIn K (.ref C) "__setattr__" = some (some (.builtin "object.__setattr__"))
  ga : findIn K (.ref C) "__getattribute__" = some (some (.builtin "BaseException.__getattribute__"))
  gg : findIn K (.ref C) "__getattr__" = some none
  noN : findIn K (.ref C) "at" = some none
  iC : findIn K (.ref C) "__init__" = some (some (.ref fI))
  tC : typeIn K (.ref fI) = some (.type "function")
  kC : keepIn K (.ref C) = true
  exC : subIn K (.ref C) (.type "BaseException") = some true
  tyC : typeIn K (.ref C) = some (.type "type")
  hdC : hasDictIn K C = true
  te : exmOne K (.ref C) (.ref C) = some true
  fn : ∃ (oc : Value) (od : Option Addr) (doc pm : Value) (an : Option Addr) (cdv ct : Value) (osl : Array (Option Value)) (p1 p2 q1 q2 q3 q4 : Pos),
    K.lookup fI = some ⟨oc, od, .func (fnOf "__init__" qn (iA p1 p2) (iB q1 q2 q3 q4) iS .none .none doc pm an cdv ct), osl⟩ ∧ codeIn K cdv qn = true
theorem one_size (v : Value) : [v].length ≤ sizeLine := by
  rw [sizeLine_eq]
  exact (by decide : 1 ≤ 16777216)
theorem kept_but {K : Frag} {h h' : Heap} {x : Addr} (X : K.In h) (hx : K.lookup x = none) (k : ∀ b o, b ≠ x → h.get? b = some o → h'.get? b = some o) : K.In h' := fun a o e =>
  k a o (fun z => by rw [z, hx] at e; cases e) (X a o e)
theorem ldC {M : Model} {s : Shared} {name : Str} {scope : Scope} {L a : Addr} {cd : Value} {m : Str → Option Value} {x : Str} {pos : Pos} {v : Value} {Q : Value → Shared → Prop} {A : Around} {E : Value → Shared → Prop} (hn : s.heap.Ns L m) (hv : m x = some v) (h : Q v s)
    (hk : scope.kind = .function := by rfl) (hl : (envOfC name scope L a cd).kindOf x = some .local := by rfl) (hd : (x == ("__debug__" : Str)) = false := by decide) :
    wpAny M A (eval (.Name x pos) (envOfC name scope L a cd)) Q E s := wpAny_Name (wpAny_loadName_local hk hl hn hv h) hd
/-- what __init__ leaves of a fresh exception at x -/
structure InitEnd (h h' : Heap) (x C dx t1 : Addr) (v : Value) : Prop where
  keep : ∀ b o, b ≠ x → h.get? b = some o → h'.get? b = some o
  obj : h'.get? x = some { cls := .ref C, dict := some dx, data := .fields #[.ref t1, .none, .none, .none, .bool false, .none] }
  dbig : h.objs.size ≤ dx
  dne : dx ≠ x
  ns : h'.Ns1 dx (fun y => if y = "at" then some v else none)
/-- a made Low -/
structure OwnMade (h h' : Heap) (e C d : Addr) (v : Value) : Prop where
  keep : ∀ b o, h.get? b = some o → h'.get? b = some o
  new : h.objs.size ≤ e
  obj : ∃ oe vs, h'.get? e = some oe ∧ oe.cls = .ref C ∧ oe.dict = some d ∧ oe.data = .fields vs ∧ vs[1]? = some .none ∧ vs[2]? = some .none
  dbig : h.objs.size ≤ d
  dne : d ≠ e
  ns : h'.Ns1 d (fun y => if y = "at" then some v else none)
section
variable {prog : Program} {w : World} {A : Around} {E : Value → Shared → Prop} {R : Result → Shared → Prop} {s : Shared} {K : Frag} {mg : Str → Option Value} {C fI : Addr} {en qn : Str}
theorem err_init (T : ErrTxt K mg en qn C fI) {x t0 : Addr} {v : Value} (X : K.In s.heap) (hlim : s.heap.NoLimit) (hx : s.heap.get? x = some (excO C t0)) (hnx : K.lookup x = none) (hroom : A.depth < recursionLimit)
    (hq : ∀ h' tk dx, InitEnd s.heap h' x C dx t0 v → R (.ok (.ret .none)) { s with heap := h', toks := tk }) :
    codeAny (model prog w) A (.call (.ref fI) ⟨[.ref x, v], []⟩) R s := by
  obtain ⟨oc, od, doc, pm, an, cdv, ct, osl, p1, p2, q1, q2, q3, q4, ho, hcd⟩ := T.fn
  obtain ⟨nm, q, N, bs, bm, sn, sub, ab, col, dd, k0, k1, k2, k3, k5, hC, hbm⟩ := T.cls
  have hcl : clsIn K C = some { name := nm, bases := bs, mro := .ref C :: bm, ns := N, qualname := q, hasDict := true, slotNames := sn, subclasses := sub, abstract := ab, collection := col, hasDel := false } := by unfold clsIn; rw [hC] <;> rfl
  refine Att.call_fn (binds := [("self", .ref x), ("at", v)]) X hlim ho hcd hroom (BindsTo.of_eq (by first | rfl | with_unfolding_all rfl)) (by first | rfl | decide | with_unfolding_all rfl) (fun s₁ IC => ?_) rfl rfl rfl
  obtain ⟨h₁, tk₁, rfl⟩ := IC.toInCall.same
  have k : ∀ b o, s.heap.get? b = some o → h₁.get? b = some o := IC.toInCall.keep
  have hn := IC.toInCall.ns
  have hxL : s.heap.objs.size ≠ x := Nat.ne_of_gt (Heap.lt_size hx)
  have X₁ : K.In h₁ := X.keeps k
  have hx₁ := k _ _ hx
  -- self.by = by
  show wpAny _ _ (execs _ _) _ _ _
  refine wpAny_execs_cons (plainObj_wpAny_Assign_Attribute ?_)
  refine ldC (v := v) hn (by first | rfl | with_unfolding_all rfl | kernel_rfl) (ldC (v := .ref x) hn (by first | rfl | with_unfolding_all rfl | kernel_rfl) ?_)
  refine set_plain X₁ (ox := excO C t0) (od := none) ⟨hx₁, rfl, rfl, trivial⟩ T.sa ?_
  refine exc_osa X₁ hx₁ hcl (show refsVE (.ref C :: bm) = true from hbm) rfl T.noN (fun h₃ tk₃ dx k₃ dn dne hx₃ hn₃ => ?_)
  show wpAny _ _ (execs _ _) _ _ _
  have z : s.heap.objs.size < h₁.objs.size := hn.lt
  exact wpAny_execs_nil (hq h₃ tk₃ dx ⟨fun b o hb e => k₃ b o hb (k b o e), hx₃, Nat.le_of_lt (Nat.lt_of_lt_of_le z dn), dne, hn₃⟩)
theorem err_made (T : ErrTxt K mg en qn C fI) {v : Value} (X : K.In s.heap) (hlim : s.heap.NoLimit) (hroom : A.depth + 1 < recursionLimit)
    (hq : ∀ h' tk e d, OwnMade s.heap h' e C d v → R (.ok (.ret (.ref e))) { s with heap := h', toks := tk }) :
    codeAny (model prog w) A (.call (.ref C) ⟨[v], []⟩) R s := by
  obtain ⟨nm, q, N, bs, bm, sn, sub, ab, col, dd, k0, k1, k2, k3, k5, hC, hbm⟩ := T.cls
  obtain ⟨hp, g, dr, tk, os⟩ := s
  have k : ∀ b o, hp.get? b = some o → ((hp.push (kdv_tup [v])).push (excO C hp.objs.size)).get? b = some o := fun b o e => Heap.get?_push_of_some _ (Heap.get?_push_of_some _ e)
  have hget : ((hp.push (kdv_tup [v])).push (excO C hp.objs.size)).get? (hp.objs.size + 1) = some (excO C hp.objs.size) := by heap_get
  have hnx : K.lookup (hp.objs.size + 1) = none := by
    cases e : K.lookup (hp.objs.size + 1) with
    | none => rfl
    | some o =>
      have z : hp.get? (hp.objs.size + 1) = some o := X _ _ e
      exact absurd (Nat.lt_of_succ_lt (Heap.lt_size z)) (Nat.lt_irrefl _)
  refine call_own F.excBase_ValueError (fun X => refsVE_contains X bm hbm) (X _ _ hC) (looks_findIn X T.iC) (fun self => bind_fn X self T.tC) (one_size v) ?_
  refine err_init (s := ⟨(hp.push (kdv_tup [v])).push (excO C hp.objs.size), g, dr, tk, os⟩) T (X.keeps k) (hlim.keeps k) hget hnx ?_ fun h' tk' dx ⟨k', hx, dn, dne, hns⟩ => ?_
  · show A.depth + 1 < recursionLimit
    exact hroom
  · have old : ∀ b o, hp.get? b = some o → h'.get? b = some o := fun b o e => k' b o (Nat.ne_of_lt (Nat.lt_succ_of_lt (Heap.lt_size e))) (k b o e)
    have z : hp.objs.size + 1 + 1 ≤ dx := by
      first
        | (simpa only [Heap.size_push] using dn)
        | exact dn
        | (have q := dn; rw [Heap.size_push, Heap.size_push] at q; exact q)
    exact ⟨rfl, hq h' tk' (hp.objs.size + 1) dx ⟨old, Nat.le_succ _, ⟨_, _, hx, rfl, rfl, rfl, rfl, rfl⟩, Nat.le_trans (Nat.le_trans (Nat.le_succ _) (Nat.le_succ _)) z, dne, hns⟩⟩
end
end ErrX
end PySem
namespace KX
open PySem PySem.Spec PyProof.Rows L2
theorem relO_err {v : V} {v' : Value} (r : RelV v v') (f : Str) : RelO (List.lookup f [(("at" : Str), v)]) (if f = "at" then some v' else none) := by
  by_cases hw : f = "at"
  · subst hw
    rw [if_pos rfl]
    have q : List.lookup ("at" : Str) [(("at" : Str), v)] = some v := by simp [List.lookup]
    rw [q]
    exact r
  · rw [if_neg hw]
    have qw : (f == ("at" : Str)) = false := by simpa using hw
    have q2 : List.lookup f [(("at" : Str), v)] = none := by simp [List.lookup, qw]
    rw [q2]
    trivial
section
variable {X : Cx} {C fI : Addr} {en qn : Str}
/-- Low(e) -/
def tMkErr (C : Addr) (ta : TA) : L2.St → Hp → XK → Prop := fun σ H Q => ta σ H fun vs H1 => ∃ v, vs = [v] ∧ ∀ d, H1 d = none → Q (.ref C) (some d) (upd H1 d (.xd [(("at" : Str), v)]))
theorem pmk_err {a : Expr} {ta : TA} {p pos : Pos} {k : Nat} (T : PySem.ErrX.ErrTxt X.K X.mg en qn C fI) (hr : Room k X.A) (ha : PA X [a] ta) (hg : Gl X en := by rfl) (hdb : (en == ("__debug__" : Str)) = false := by decide)
    (he : starEach (a :: []) X.env = (false, eval a X.env) :: starEach [] X.env := by rfl) (hpl : (backTo pos (starEach [] X.env)).any (·.1) = false := by rfl) :
    L2N.PMk X (.Call (.Name en p) [a] [] pos) (tMkErr C ta) := by
  intro pins s σ H Q I h
  refine wpAny_Call_Name_kw (ld_glob I hg T.gC ?_ hdb)
  refine PySem.W.callWith_K (h₀ := X.base) I.ok.mod.kin T.kC (thn (ha.run pos pins s σ H _ I h) fun us s1 hh => ?_) he hpl
  obtain ⟨vs, H1, I1, r1, v, ev, q1⟩ := hh
  subst ev
  refine ⟨I1.kIn, ?_⟩
  cases r1 with
  | cons rv rn =>
    rename_i v' us'
    cases rn
    show wpAny _ _ (call (.ref C) [v']) _ _ _
    have hlim := I1.nolimit
    obtain ⟨hp, g, dr, tk, os⟩ := s1
    refine wpAny_call (PySem.ErrX.err_made T I1.kIn hlim (by have := hr.dp; omega) fun h' tk' e d M => ?_)
    show L2N.MkP X pins σ Q (.ref e) ⟨h', g, dr, tk', os⟩
    obtain ⟨oe, fv, hoe, hc, hd, hdat, h1, h2⟩ := M.obj
    have hns := M.ns
    obtain ⟨G', g1, g2⟩ := restrict h' fun b => decide (b ≠ e)
    have gk : ∀ b, b ≠ e → G'.get? b = h'.get? b := fun b hb => g1 b (decide_eq_true hb)
    have ge : G'.get? e = none := g2 e (by simp)
    have old : ∀ b o, hp.get? b = some o → G'.get? b = some o := fun b o q => (gk b (Nat.ne_of_lt (Nat.lt_of_lt_of_le (Heap.lt_size q) M.new))).trans (M.keep b o q)
    have ob : ObjOk X.prog X.w (upd H1 d (.xd [(("at" : Str), v)])) G' d (.xd [(("at" : Str), v)]) :=
      ⟨_, hns.at (fun o q => (gk d M.dne).trans q), fun f => relO_err rv f⟩
    have J : Inv X pins σ (upd H1 d (.xd [(("at" : Str), v)])) ⟨G', g, dr, tk', os⟩ := I1.laid (t' := tk') old M.dbig ob
    refine ⟨e, oe, fv, ⟨G', g, dr, tk', os⟩, _, .ref C, some d, rfl, J, fun b o q => ?_, ge, hoe, ⟨hc, hd, fun vs' z => by rw [hdat] at z; cases z; exact h2⟩, hdat, h1, ?_, rfl, I1.bare, raises_own T.exC T.tyC, q1 d (I1.hok.fresh M.dbig)⟩
    · by_cases hb : b = e
      · have q' : G'.get? b = some o := q
        rw [hb, ge] at q'; cases q'
      · exact (gk b hb).symm.trans q
    · rw [upd_ne (Ne.symm M.dne)]
      exact I1.hok.fresh M.new
/-- raise Low(e) -/
def tRaiseErr (C : Addr) (W : WX) (ta : TA) : TS := fun _ σ H => tMkErr C ta σ H fun cls d H' => W cls d σ H'
theorem ps_raiseErr {a : Expr} {ta : TA} {W : WX} {p pos pos2 : Pos} {k : Nat} (hc : X.calm = true) (T : PySem.ErrX.ErrTxt X.K X.mg en qn C fI) (hr : Room k X.A) (tk : L2N.Takes X W) (ha : PA X [a] ta) (hg : Gl X en := by rfl) (hdb : (en == ("__debug__" : Str)) = false := by decide)
    (he : starEach (a :: []) X.env = (false, eval a X.env) :: starEach [] X.env := by rfl) (hpl : (backTo pos (starEach [] X.env)).any (·.1) = false := by rfl) :
    PS X (.Raise (some (.Call (.Name en p) [a] [] pos)) none pos2) (tRaiseErr C W ta) := L2N.ps_raise hc tk (pmk_err T hr ha hg hdb he hpl)
end
end KX

namespace PySem
namespace ErrX
open PySem.W PySem.Calls PyProof.Rows PySem.HandSPX
def iA0 (p1 : Pos) : Arguments :=
  { posonlyargs := [], args := [{ arg := "self", annotation := none, pos := p1 }], vararg := none,
    kwonlyargs := [], kw_defaults := [], kwarg := none, defaults := [] }
def iS0 : Scope :=
  { kind := .function, names := [(PySem.Str.ofString "self", .local)], isGenerator := false, isCoroutine := false, more := [] }
/-- an error class whose __init__(self) does nothing -/
structure ErrTxt0 (K : Frag) (mg : Str → Option Value) (en qn : Str) (C fI : Addr) : Prop where
  gC : mg en = some (.ref C)
  cls : ∃ nm q N bs bm sn sub ab col dd k0 k1 k2 k3 k5,
    K.lookup C = some (excClassObj nm q C N bs bm true sn sub ab col dd k0 k1 k2 k3 k5 "ValueError.__new__") ∧ refsVE bm = true
  iC : findIn K (.ref C) "__init__" = some (some (.ref fI))
  tC : typeIn K (.ref fI) = some (.type "function")
  kC : keepIn K (.ref C) = true
  exC : subIn K (.ref C) (.type "BaseException") = some true
  tyC : typeIn K (.ref C) = some (.type "type")
  fn : ∃ (oc : Value) (od : Option Addr) (doc pm : Value) (an : Option Addr) (cdv ct : Value) (osl : Array (Option Value)) (p1 q1 : Pos),
    K.lookup fI = some ⟨oc, od, .func (fnOf "__init__" qn (iA0 p1) [.Pass q1] iS0 .none .none doc pm an cdv ct), osl⟩ ∧
      codeIn K cdv qn = true
/-- what is made: an exception without a dict -/
structure OwnMade0 (h h' : Heap) (e C : Addr) : Prop where
  keep : ∀ b o, h.get? b = some o → h'.get? b = some o
  new : h.objs.size ≤ e
  obj : ∃ oe vs, h'.get? e = some oe ∧ oe.cls = .ref C ∧ oe.dict = none ∧ oe.data = .fields vs ∧ vs[1]? = some .none ∧
    vs[2]? = some .none
section
variable {prog : Program} {w : World} {A : Around} {E : Value → Shared → Prop} {R : Result → Shared → Prop}
  {s : Shared} {K : Frag} {mg : Str → Option Value} {C fI : Addr} {en qn : Str}
theorem err_init0 (T : ErrTxt0 K mg en qn C fI) {x : Addr} (X : K.In s.heap) (hlim : s.heap.NoLimit)
    (hroom : A.depth < recursionLimit)
    (hq : ∀ h' tk, (∀ b o, s.heap.get? b = some o → h'.get? b = some o) → R (.ok (.ret .none)) { s with heap := h', toks := tk }) :
    codeAny (model prog w) A (.call (.ref fI) ⟨[.ref x], []⟩) R s := by
  obtain ⟨oc, od, doc, pm, an, cdv, ct, osl, p1, q1, ho, hcd⟩ := T.fn
  refine Att.call_fn (binds := [("self", .ref x)]) X hlim ho hcd hroom
    (BindsTo.of_eq (by first | rfl | with_unfolding_all rfl)) (by first | rfl | decide | with_unfolding_all rfl)
    (fun s₁ IC => ?_) rfl rfl rfl
  obtain ⟨h₁, tk₁, rfl⟩ := IC.toInCall.same
  show wpAny _ _ (execs _ _) _ _ _
  refine wpAny_execs_cons ?_
  refine wpAny_Pass ?_
  show wpAny _ _ (execs _ _) _ _ _
  exact wpAny_execs_nil (hq h₁ tk₁ IC.toInCall.keep)
theorem err_made0 (T : ErrTxt0 K mg en qn C fI) (X : K.In s.heap) (hlim : s.heap.NoLimit) (hroom : A.depth + 1 < recursionLimit)
    (hq : ∀ h' tk e, OwnMade0 s.heap h' e C → R (.ok (.ret (.ref e))) { s with heap := h', toks := tk }) :
    codeAny (model prog w) A (.call (.ref C) ⟨[], []⟩) R s := by
  obtain ⟨nm, q, N, bs, bm, sn, sub, ab, col, dd, k0, k1, k2, k3, k5, hC, hbm⟩ := T.cls
  obtain ⟨hp, g, dr, tk, os⟩ := s
  have k : ∀ b o, hp.get? b = some o → ((hp.push (kdv_tup [])).push (excO C hp.objs.size)).get? b = some o :=
    fun b o e => Heap.get?_push_of_some _ (Heap.get?_push_of_some _ e)
  have hget : ((hp.push (kdv_tup [])).push (excO C hp.objs.size)).get? (hp.objs.size + 1) = some (excO C hp.objs.size) := by
    heap_get
  refine call_own F.excBase_ValueError (fun X => refsVE_contains X bm hbm) (X _ _ hC) (looks_findIn X T.iC)
    (fun self => bind_fn X self T.tC) (Nat.zero_le _) ?_
  refine err_init0 (s := ⟨(hp.push (kdv_tup [])).push (excO C hp.objs.size), g, dr, tk, os⟩) T (X.keeps k) (hlim.keeps k) ?_
    fun h' tk' k' => ?_
  · show A.depth + 1 < recursionLimit
    exact hroom
  · exact ⟨rfl, hq h' tk' (hp.objs.size + 1) ⟨fun b o e => k' b o (k b o e), Nat.le_succ _,
      ⟨_, _, k' _ _ hget, rfl, rfl, rfl, rfl, rfl⟩⟩⟩
end
end ErrX
end PySem

namespace KX
open PySem PySem.Spec PyProof.Rows L2
section
variable {X : Cx} {C fI : Addr} {en qn : Str}
def tMkErr0 (C : Addr) : L2.St → Hp → XK → Prop := fun _ H Q => Q (.ref C) none H
theorem pmk_err0 {p pos : Pos} {k : Nat} (T : PySem.ErrX.ErrTxt0 X.K X.mg en qn C fI) (hr : Room k X.A) (hg : Gl X en := by rfl)
    (hdb : (en == ("__debug__" : Str)) = false := by decide) : L2N.PMk X (.Call (.Name en p) [] [] pos) (tMkErr0 C) := by
  intro pins s σ H Q I h
  refine wpAny_Call_Name_kw (ld_glob I hg T.gC ?_ hdb)
  refine PySem.W.callWith_K0 I.kIn T.kC ?_
  show wpAny _ _ (call (.ref C) []) _ _ _
  have hlim := I.nolimit
  have KX := I.kIn
  obtain ⟨hp, g, dr, tk, os⟩ := s
  refine wpAny_call (PySem.ErrX.err_made0 T KX hlim (by have := hr.dp; omega) fun h' tk' e M => ?_)
  show L2N.MkP X pins σ Q (.ref e) ⟨h', g, dr, tk', os⟩
  obtain ⟨oe, fv, hoe, hc, hd, hdat, h1, h2⟩ := M.obj
  refine ⟨e, oe, fv, ⟨hp, g, dr, tk, os⟩, H, .ref C, none, rfl, I, M.keep, Heap.get?_none_of_le M.new, hoe,
    ⟨hc, hd, fun vs' z => by rw [hdat] at z; cases z; exact h2⟩, hdat, h1, I.hok.fresh M.new, rfl, I.bare,
    raises_own T.exC T.tyC, h⟩
def tRaiseErr0 (C : Addr) (W : WX) : TS := fun _ σ H => W (.ref C) none σ H
theorem ps_raiseErr0 {W : WX} {p pos pos2 : Pos} {k : Nat} (hc : X.calm = true) (T : PySem.ErrX.ErrTxt0 X.K X.mg en qn C fI)
    (hr : Room k X.A) (tk : L2N.Takes X W) (hg : Gl X en := by rfl) (hdb : (en == ("__debug__" : Str)) = false := by decide) :
    PS X (.Raise (some (.Call (.Name en p) [] [] pos)) none pos2) (tRaiseErr0 C W) :=
  L2N.ps_raise hc tk (pmk_err0 T hr hg hdb)
end
end KX

namespace KX
open PySem PySem.Spec PyProof.Rows L2 L2H
/-! contracts under a condition C on the call's surroundings -/
abbrev Con := Around → List Env → Shared → Hp → Prop
structure FnR (P : Program) (w : World) (K : PySem.W.Frag) (mg : Str → Option Value) (base : Heap) (CX : CXT) (C : Con)
    (f : Addr) (fd : FuncData) (ps : List Str) (sp : Sp) : Prop where
  sized : ∀ vs H Q E, sp vs H Q E → vs.length = ps.length
  does : ∀ (A : Around) (outer : List Env) (s : Shared) (H : Hp) (args : Args) (us : List Value) (vs : List V) (Q : VK) (E : XK),
    C A outer s H → Env0 P w K mg base A outer s H → BindsTo s fd args (ps.zip us) → Vals vs us → sp vs H Q E →
      codeAny (model P w) A (.call (.ref f) args) (CR CX outer P w H s Q E) s
/-- no repr is under way -/
def CG (k : Nat) : Con := fun A _ _ _ => Room k A ∧ A.guards = some []
/-- p is the exception that is handled -/
def CP (k : Nat) (p : Addr × Obj) : Con := fun A outer s H => RoomH k A ∧ Hot1 A p ∧ PinOk outer H s p
/-- a body's context, calm or not, with pins -/
abbrev cxV (c : Bool) (pn : List (Addr × Obj)) (X : Cx) : Cx := { X with calm := c, pn := pn }
section
variable {CX : CXT} {P : Program} {w : World} {K : PySem.W.Frag} {mg : Str → Option Value} {base : Heap} {f : Addr}
  {name qual : Str} {params : Arguments} {body : List Stmt} {scope : Scope} {dV kV doc pm cdv ct oc : Value}
  {an od : Option Addr} {osl : Array (Option Value)} {N ps : List Str}
theorem call_body {A : Around} {outer : List Env} {s : Shared} {H : Hp} {args : Args} {us : List Value} {vs : List V} {Q : VK}
    {E : XK} {c : Bool} {pn : List (Addr × Obj)}
    (lk : K.lookup f = some ⟨oc, od, .func (PySem.W.fnOf name qual params body scope dV kV doc pm an cdv ct), osl⟩)
    (hcd : PySem.W.codeIn K cdv qual = true) (S : FnScope N ps scope) (hdp : A.depth < recursionLimit)
    (e0 : Env0 P w K mg base A outer s H)
    (hb : BindsTo s (PySem.W.fnOf name qual params body scope dV kV doc pm an cdv ct) args (ps.zip us))
    (begins : ∀ s1, InCallC s s.heap.objs.size
        (bindL (envOfC qual scope s.heap.objs.size f cdv).kindOf (ps.zip us) fun _ => none)
        (cellsFrom (s.heap.objs.size + 1) scope.names [])
        (bindC (envOfC qual scope s.heap.objs.size f cdv).kindOf (ps.zip us) fun _ => none) s1 →
      L2.Inv (cxV c pn (cxOf CX P w K mg base N qual scope f cdv A outer s H E)) [] (L2.start N vs) H s1)
    (reads : ∃ t, PSs (cxV c pn (cxOf CX P w K mg base N qual scope f cdv A outer s H E)) body t ∧
      t { nx := fun _ H' => Q .non H', rt := Q } (L2.start N vs) H) :
    codeAny (model P w) A (.call (.ref f) args) (CR CX outer P w H s Q E) s := by
  have stays : ∀ b o, base.get? b = some o → s.heap.get? b = some o := fun b o e => (e0.bs b o e).1
  have KI := e0.mod.kin.keeps stays
  have NL := e0.mod.nolimit.keeps stays
  refine codeAny_call_function hdp (KI _ _ lk) rfl S.co S.gen rfl
    (PySem.W.codeRec_of KI hcd) (hb _ _ _ _ ?_)
  refine wpAny_newFunctionEnv_cells S.kind (fun y hy => ?_) fun env he s1 x => ?_
  · obtain ⟨n, v⟩ := y
    cases S.par n (List.of_mem_zip hy).1 with
    | inl q => exact Or.inl q
    | inr q => exact Or.inr ⟨q, PySem.W.cellsFrom_some _ _ _ (Or.inl q)⟩
  · subst he
    obtain ⟨t, ht, hq⟩ := reads
    have I := begins s1 x
    refine ⟨NL.keeps x.toInCall.keep, codeAny_func (wpAny_mono (ht.run [] s1 (L2.start N vs) H _ I hq)
      (fun fl s' hs => ?_) fun e s' hs => hs)⟩
    cases fl with
    | ret u =>
      obtain ⟨v, σ', H', J, rv, q⟩ := hs
      exact ⟨v, H', J.os, J.bare, J.base, J.hok, rv, q⟩
    | next =>
      obtain ⟨σ', H', J, q⟩ := hs
      exact ⟨V.non, H', J.os, J.bare, J.base, J.hok, rfl, q⟩
    | brk => exact False.elim hs.choose_spec.choose_spec.2
    | cont => exact False.elim hs.choose_spec.choose_spec.2
/-- a def under CG -/
theorem fnG_of {k : Nat} {sp : Sp}
    (lk : K.lookup f = some ⟨oc, od, .func (PySem.W.fnOf name qual params body scope dV kV doc pm an cdv ct), osl⟩)
    (hcd : PySem.W.codeIn K cdv qual = true) (S : FnScope N ps scope)
    (sized : ∀ vs H Q E, sp vs H Q E → vs.length = ps.length)
    (reads : ∀ (A : Around) (outer : List Env) (s : Shared) (H : Hp) (vs : List V) (Q : VK) (E : XK),
      Room k (A.deeper (envOfC qual scope s.heap.objs.size f cdv)) → A.guards = some [] → sp vs H Q E →
      ∃ t, PSs (cxOf CX P w K mg base N qual scope f cdv A outer s H E) body t ∧
        t { nx := fun _ H' => Q .non H', rt := Q } (L2.start N vs) H) :
    FnR P w K mg base CX (CG (k + 1)) f (PySem.W.fnOf name qual params body scope dV kV doc pm an cdv ct) ps sp :=
  ⟨sized, fun A outer s H args us vs Q E hc e0 hb r h =>
    call_body (c := true) (pn := []) lk hcd S hc.1.depth e0 hb
      (fun s1 x => inv_start S hc.1.hd e0 (sized _ _ _ _ h) r x) (reads A outer s H vs Q E (hc.1.deeper _) hc.2 h)⟩
/-- a def under CP -/
theorem fnP_of {k : Nat} {sp : Sp} {p : Addr × Obj}
    (lk : K.lookup f = some ⟨oc, od, .func (PySem.W.fnOf name qual params body scope dV kV doc pm an cdv ct), osl⟩)
    (hcd : PySem.W.codeIn K cdv qual = true) (S : FnScope N ps scope)
    (sized : ∀ vs H Q E, sp vs H Q E → vs.length = ps.length)
    (reads : ∀ (A : Around) (outer : List Env) (s : Shared) (H : Hp) (vs : List V) (Q : VK) (E : XK), Hot1 A p →
      RoomH k (A.deeper (envOfC qual scope s.heap.objs.size f cdv)) → sp vs H Q E →
      ∃ t, PSs (cxV false [p] (cxOf CX P w K mg base N qual scope f cdv A outer s H E)) body t ∧
        t { nx := fun _ H' => Q .non H', rt := Q } (L2.start N vs) H) :
    FnR P w K mg base CX (CP (k + 1) p) f (PySem.W.fnOf name qual params body scope dV kV doc pm an cdv ct) ps sp :=
  ⟨sized, fun A outer s H args us vs Q E hc e0 hb r h =>
    call_body (c := false) (pn := [p]) lk hcd S hc.1.depth e0 hb
      (fun s1 x => inv_startH S hc.2.2 e0 (sized _ _ _ _ h) r x)
      (reads A outer s H vs Q E hc.2.1 (hc.1.deeper _) h)⟩
end
section
variable {X : Cx} {CX : CXT} {C : Con} {f : Addr} {fd : FuncData} {ps : List Str} {sp : Sp} {E : XK} {x : Str} {p pos : Pos}
  {e : Expr} {es : List Expr} {t : TA}
/-- a call of such a def -/
theorem pe_callR (F : FnR X.prog X.w X.K X.mg X.base CX C f fd ps sp)
    (hC : ∀ pins σ H s, L2.Inv X pins σ H s → C X.A X.stack s H) (hg : Gl X x) (hm : X.mg x = some (.ref f))
    (hk : PySem.W.keepIn X.K (.ref f) = true) (hb : Binds X.K fd ps []) (hx : Passes CX X E) (ha : PA X (e :: es) t)
    (hdb : (x == ("__debug__" : Str)) = false := by decide)
    (he : starEach (e :: es) X.env = (false, eval e X.env) :: starEach es X.env := by rfl)
    (hpl : (backTo pos (starEach es X.env)).any (·.1) = false := by rfl) :
    PE X (.Call (.Name x p) (e :: es) [] pos) (tCall sp [] E t) := by
  refine ⟨fun pins s σ H Q I h => wpAny_Call_Name_kw (ld_glob I hg hm ?_ hdb)⟩
  refine PySem.W.callWith_K (h₀ := X.base) I.ok.mod.kin hk
    (thn (ha.run pos pins s σ H _ I h) fun us s1 hh => ?_) he hpl
  obtain ⟨vs, H1, I1, r, q⟩ := hh
  rw [List.append_nil] at q
  have hl : (us ++ []).length = ps.length := by
    rw [List.append_nil, ← r.length]
    exact F.sized _ _ _ _ q
  have b := hb s1 us I1.kIn hl
  rw [List.append_nil] at b
  refine ⟨I1.kIn, wpAny_call (codeAny_mono
    (F.does X.A X.stack s1 H1 ⟨us, []⟩ us vs Q E (hC _ _ _ _ I1) I1.env0 b r q) fun r s' hq => ?_)⟩
  match r, hq with
  | .error e, hq => exact hx pins σ H1 s1 e s' I1 hq
  | .ok (.ret u), hq => exact I1.after hq
end
end KX

namespace KX
open PySem PySem.Spec PyProof.Rows L2 L2H
/-! in an except suite -/
theorem hot_suite {X : Cx} {a : Addr} {oe : Obj} {cls : Value} {d : Option Addr} {pn : List (Addr × Obj)}
    (hz : L2N.Zn cls d oe) (hf : ∃ vs, oe.data = .fields vs) : HotC (X.suite a ((a, oe) :: pn)) := by
  obtain ⟨vs, hv⟩ := hf
  exact ⟨(a, oe), ⟨rfl, vs, hv, hz.2.2 vs hv⟩, List.mem_cons_self⟩
/-- the dict of the exception, if any, is tracked -/
def DictIs (d : Option Addr) (H : Hp) : Prop := d = none ∨ ∃ dd fs, d = some dd ∧ H dd = some (.xd fs)
/-- isinstance(e, c), e pinned -/
def rIsP (K : PySem.W.Frag) (D a : Addr) (d : Option Addr) : List V → Hp → VK → Prop := fun xs H Q =>
  DictIs d H ∧ ∃ (c : V) (cv : Value) (b : Bool), xs = [.ref a, c] ∧ (∀ u, RelV c u → u = cv) ∧
    PySem.W.kitOne K (.ref D) cv = some b ∧ Q (.bl b) H
theorem call_isP {X : Cx} {a D : Addr} {oe : Obj} {d : Option Addr} (C : ExcC X.K D) (hp : (a, oe) ∈ X.pn)
    (hz : Zc (.ref D) d oe) (hf : ∃ vs, oe.data = .fields vs) : CallR X (.builtin "isinstance") (rIsP X.K D a d) := by
  intro pins s σ H xs us Q I r h
  obtain ⟨hd, c, cv, b, rfl, hcv, e, q⟩ := h
  cases r with
  | cons rx rr =>
    cases rr with
    | cons rt rr =>
      cases rr
      cases rx
      have ec := hcv _ rt
      subst ec
      obtain ⟨hget, _⟩ := I.pin (a, oe) (List.mem_append_left _ hp)
      obtain ⟨vs, hv⟩ := hf
      obtain ⟨od, J⟩ : ∃ od, PySem.W.InstAt s.heap a oe D od := by
        rcases hd with hd | ⟨dd, fs, hd, hH⟩
        · refine ⟨none, hget, hz.1, by unfold PySem.W.notCls; rw [hv] <;> rfl, ?_⟩
          rw [hz.2, hd]
          trivial
        · have hx : ObjOk X.prog X.w H s.heap dd (.xd fs) := I.hok dd _ hH
          obtain ⟨mA, hns, _⟩ := hx
          obtain ⟨od, ho, _⟩ := lookIn_ns hns
          refine ⟨some od, hget, hz.1, by unfold PySem.W.notCls; rw [hv] <;> rfl, ?_⟩
          rw [hz.2, hd]
          exact ho
      have hcl : (PySem.W.clsIn X.K D).isSome = true := by
        obtain ⟨cd, hc, _⟩ := PySem.W.any_some C.hd
        rw [hc]
        rfl
      exact PySem.W.kia_one (PySem.W.kitx_exc (od := od) (ox := oe) hcl C.hg C.hk C.hs C.ha C.hn C.ht C.hm) I.kIn J e
        (fun z => nomatch z) fun tk => ⟨.bl b, H, I.kept (t' := tk) fun _ _ z => z, rfl, q⟩
/-! a list comprehension there -/
section
variable {X : Cx}
/-- the block's context, the handled exception pinned -/
abbrev hblk (X : Cx) (p : Addr × Obj) (s : Shared) (H : Hp) (scope : Scope) (ce : Env) (fp : List Addr) : Cx :=
  (X.blk s H scope ce fp).tr ([] ++ [p]) (fun _ _ => False)
theorem to_hblk {p : Addr × Obj} {s s' : Shared} {H H' : Hp} {scope : Scope} {ce : Env} {fp : List Addr} {σ : L2.St}
    (I : L2.Inv (X.blk s H scope ce fp) [] σ H' s')
    (h : s'.heap.get? p.1 = some p.2 ∧ H' p.1 = none ∧ p.1 ≠ ce.locals ∧ p.1 ∉ (X.blk s H scope ce fp).fs ∧ ∀ v, p.2.data ≠ .cell v) :
    L2.Inv (hblk X p s H scope ce fp) [] σ H' s' :=
  (I.pins_of (pins' := [p]) fun q hq => by rw [List.mem_singleton.mp hq]; exact h).toTry _
theorem hblk_hot {p : Addr × Obj} {s : Shared} {H : Hp} {scope : Scope} {ce : Env} {fp : List Addr} (h : Hot1 X.A p) :
    HotC (hblk X p s H scope ce fp) := ⟨p, h, by simp⟩
theorem pe_lcHot {p : Addr × Obj} {elt tg iter : Expr} {scope : Scope} {own : List (Str × Nat)} {pos : Pos} {wi : TI} {g : TG}
    {te : TE} (hot : Hot1 X.A p) (hp : p ∈ X.pn) (hN : X.N.Nodup) (hi : PIH X tg iter wi) (ok : BlkOk X.N X.env.scope scope own)
    (hg : ∀ s H C cl fp, PG (hblk X p s H scope (compEnvC scope cl C X.env) fp) tg g)
    (he : ∀ s H C cl fp, PE (hblk X p s H scope (compEnvC scope cl C X.env) fp) elt te)
    (hs : ∀ x, foldedSetIterable iter X.env x = pure x := by intro _; rfl) :
    PE X (.ListComp elt [⟨tg, iter, [], 0⟩] scope pos) (tLc wi g tYes te (own.map (·.2))) := by
  refine ⟨fun pins s σ H Q I h => ?_⟩
  rw [eval_ListComp]
  have free : ∀ y ∈ scope.names, y.2 = .free → ∃ c, X.env.cells.lookup y.1 = some c := fun y hy e =>
    (ok.free y hy e).elim (fun k => I.ok.has _ (Or.inl k)) fun k => I.ok.has _ (Or.inr k)
  refine wpAny_comprehension_free (use := none) rfl hs (closure_ok free) ok.kind
    (fun y hy e => by rw [ok.uniq y hy, e])
    (thn (hi.run pins s σ H _ I h) fun xv s1 hx => thn hx fun itv s2 h2 => ?_)
  obtain ⟨it, fp, tn, J, H2, e, I2, T, st2, f2, q⟩ := h2
  subst e
  refine wpAny_newObj_type (newEnv_comp ?_) (by show 0 ≤ sizeLine; decide)
  generalize hD : s2.heap.objs.size = D
  have hDn : H2 D = none := I2.hok.fresh (Nat.le_of_eq hD)
  obtain ⟨W, ⟨m0, w0⟩, turn⟩ := q D hDn
  generalize hs3 : ({ s2 with heap := s2.heap.push { cls := .type "list", data := .seq ([] : List Value).toArray } } : Shared) = s3
  have k23 : ∀ b o, s2.heap.get? b = some o → s3.heap.get? b = some o := fun b o e => by
    rw [← hs3]
    exact Heap.get?_push_of_some _ e
  have I3 : L2.Inv X pins σ (upd H2 D (.lst [])) s3 := by
    rw [← hs3]
    refine I2.laid (t' := s2.toks) (fun b o e => Heap.get?_push_of_some _ e) (Nat.le_of_eq hD)
      ⟨Nat.zero_le _, [], 0, .nil, ?_⟩
    rw [← hD]
    exact Heap.get?_push_size _ rfl
  have sz3 : s3.heap.objs.size = s2.heap.objs.size + 1 := by rw [← hs3]; exact Heap.size_push ..
  have P3 := I3.pin p (List.mem_append_left _ hp)
  have small : ∀ b ∈ fp, b < s2.heap.objs.size := fun b hb =>
    let ⟨_, e, _⟩ := T.obj _ _ st2 b hb
    Heap.lt_size e
  have f3 : ∀ b ∈ fp, FpOk X pins (upd H2 D (.lst [])) b ∧ b < s3.heap.objs.size := fun b hb => by
    have hlt := small b hb
    refine ⟨⟨?_, (f2 b hb).2⟩, by rw [sz3]; exact Nat.lt_succ_of_lt hlt⟩
    rw [upd_ne (by rw [← hD]; exact Nat.ne_of_lt hlt)]
    exact (f2 b hb).1
  have st3 : tn 0 s3.heap := T.keep _ _ _ st2 fun b _ o e => k23 b o e
  have I4' := block_start I3 ok hN f3
  show codeAny _ _ (.compStart (.ListComp elt [⟨tg, iter, [], 0⟩] scope pos) 0 (.ref it) (.ref D)
      (compEnvC scope (cellsFrom (s3.heap.objs.size + 1) scope.names (cloFrom X.env.cells scope.names [])) s3.heap.objs.size X.env))
    (compPost (model X.prog X.w) X.A X.xe none (EP X pins σ Q) (.ref D) s3.heap.objs.size)
    { s3 with heap := pushCells (s3.heap.push { cls := .type "dict", data := .dict #[] }) scope.names }
  have pg := hg s3 (upd H2 D (.lst [])) s3.heap.objs.size
    (cellsFrom (s3.heap.objs.size + 1) scope.names (cloFrom X.env.cells scope.names [])) fp
  have pe := he s3 (upd H2 D (.lst [])) s3.heap.objs.size
    (cellsFrom (s3.heap.objs.size + 1) scope.names (cloFrom X.env.cells scope.names [])) fp
  generalize hce : compEnvC scope (cellsFrom (s3.heap.objs.size + 1) scope.names
    (cloFrom X.env.cells scope.names [])) s3.heap.objs.size X.env = ce at I4' pg pe ⊢
  have cL : ce.locals = s3.heap.objs.size := by subst hce; rfl
  generalize hH3 : upd H2 D (.lst []) = H3 at I3 I4' pg pe w0 f3 P3
  generalize hs4 : ({ s3 with heap := pushCells (s3.heap.push { cls := .type "dict", data := .dict #[] }) scope.names } : Shared) = s4
    at I4' ⊢
  have k34 : ∀ b o, s3.heap.get? b = some o → s4.heap.get? b = some o := fun b o e => by
    rw [← hs4]
    exact pushCells_keeps _ _ _ _ (Heap.get?_push_of_some _ e)
  have st4 : tn 0 s4.heap := T.keep _ _ _ st3 fun b _ o e => k34 b o e
  have nfs : p.1 ∉ (X.blk s3 H3 scope ce fp).fs := fun hm =>
    (List.mem_cons.mp (I3.stkSub p.1 hm)).elim P3.2.2.1 P3.2.2.2.1
  have I4 : L2.Inv (hblk X p s3 H3 scope ce fp) [] (wipe σ (own.map (·.2))) H3 s4 := to_hblk I4'
    ⟨k34 _ _ P3.1, P3.2.1, by rw [cL]; exact Nat.ne_of_lt (Heap.lt_size P3.1), nfs, P3.2.2.2.2⟩
  have hc : HotC (hblk X p s3 H3 scope ce fp) := hblk_hot hot
  have nfp : ∀ b ∈ fp, H3 b = none := fun b hb => (f3 b hb).1.1
  have stat : ∀ {σ' : L2.St} {H' : Hp} {s' : Shared}, L2.Inv (hblk X p s3 H3 scope ce fp) [] σ' H' s' → (∀ b ∈ fp, H' b = none) →
      ∀ b ∈ fp, FpOk (hblk X p s3 H3 scope ce fp) [] H' b := fun {σ' H' s'} I' hn b hb =>
    ⟨hn b hb, (I'.ok.exf b hb).1, I'.ok.exfs b hb, Or.inl hb, fun x c e => (I'.ok.exf b hb).2 x c e, fun r hr => by
      have er : r = p := by simpa using hr
      rw [er]
      exact (f3 b hb).1.2.2.2.2.2 p (List.mem_append_left _ hp)⟩
  have loop : codeAny (model X.prog X.w) X.A (.compLoop (.ListComp elt [⟨tg, iter, [], 0⟩] scope pos) 0 (.ref it) (.ref D) ce)
      (compPost (model X.prog X.w) X.A X.xe none (EP X pins σ Q) (.ref D) s3.heap.objs.size) s4 := by
    refine compLoop_any (fun n s' => ∃ i H', L2.Inv (hblk X p s3 H3 scope ce fp) [] (wipe σ (own.map (·.2))) H' s' ∧
      tn i s'.heap ∧ (∀ b ∈ fp, H' b = none) ∧ W i n H') ?_ m0 ⟨0, H3, I4, st4, nfp, w0⟩
    rintro n s5 ⟨i, H5, I5, st5, n5, w5⟩
    rcases turn i n H5 w5 with ⟨stop, qq⟩ | ⟨go, Nx, hNx, step⟩
    · refine thnF (T.done (hblk X p s3 H3 scope ce fp) rfl rfl rfl hc i [] s5 _ H5 (fun _ _ => False) I5 (stat I5 n5) st5 stop)
        fun r s6 hr => ?_
      obtain ⟨rfl, I6⟩ := hr
      have I7 : L2.Inv X pins σ H5 s6 := I3.call' (ch := fp) I6.os I6.base I6.hok I6.bare fun b hb =>
        let z := (f3 b hb).1.2
        ⟨z.2.2.1, z.1, z.2.2.2.1, z.2.2.2.2⟩
      have nC : H5 s3.heap.objs.size = none := by rw [← cL]; exact I6.free
      obtain ⟨m, hn, _⟩ := I6.loc
      have hn : s6.heap.Ns s3.heap.objs.size m := by rw [← cL]; exact hn
      obtain ⟨g0, g1, g2, g3, g4, g5⟩ := I3.fpOk (Nat.le_refl _) nC
      exact ⟨m, hn, fun h'' sb => ⟨.ref D, H5,
        I7.turned (t' := s6.toks) (fun b o hb e => (sb.2 b hb).trans e) g0 g1 g3 g4 g5, rfl, qq⟩⟩
    · refine thnF (T.item (hblk X p s3 H3 scope ce fp) rfl rfl rfl hc i [] s5 _ H5 (fun _ _ => False) I5 (stat I5 n5) st5 go)
        fun r s6 hr => ?_
      obtain ⟨u, rfl, h6⟩ := hr
      refine thnF h6 fun _ s7 h7 => ?_
      obtain ⟨x, H7, I7, r7, y7, st7, n7⟩ := h7
      have I7' := I7.pinned (stat I7 n7) (T.obj _ _ st7)
      refine thnF (pg.run _ s7 _ H7 x u _ I7' r7 (step x H7 y7)) fun _ s8 h8 => ?_
      obtain ⟨σ8, H8, I8, hw8, q8⟩ := h8
      refine wpAny_pure ?_
      have q9 : te σ8 H8 fun y H4 => ∃ acc, H4 D = some (.lst acc) ∧ acc.length < sizeLine ∧ Nx (upd H4 D (.lst (acc ++ [y]))) := q8
      simp only [if_true]
      refine thnF (pe.run _ s8 σ8 H8 _ I8 q9) fun z s10 h10 => ?_
      obtain ⟨yv, H10, I10, r10, acc, hD10, hz10, nx⟩ := h10
      refine app_ok (X := hblk X p s3 H3 scope ce fp) I10 hD10 hz10 r10 fun s11 I11 => ?_
      obtain ⟨m', hm, w'⟩ := hNx _ nx
      have kept : ∀ b ∈ fp, ∀ o, s7.heap.get? b = some o → s11.heap.get? b = some o ∧
          (upd H10 D (.lst (acc ++ [yv]))) b = none := fun b hb o e =>
        let z := I11.pin (b, o) (List.mem_append_right _ (List.mem_append_right _ (mem_pinsAt hb e)))
        ⟨z.1, z.2.1⟩
      refine ⟨m', hm, i + 1, _, (I11.unpinned (pins := [])).weak (by rw [← hw8, wipe_length]) (fun j v e => ?_),
        T.keep _ _ _ st7 fun b hb o e => (kept b hb o e).1, fun b hb => ?_, w'⟩
      · rw [← hw8] at e
        exact (wipe_some e).1
      · obtain ⟨o, e, _⟩ := T.obj _ _ st7 b hb
        exact (kept b hb o e).2
  exact codeAny_compStart_list loop (T.self X.A 0 _ _ _ st4 loop)
end
end KX

namespace KX
open PySem PySem.Spec PyProof.Rows L2 L2H
/-! the law's own call, its def promised under CG -/
theorem none_or_at {H : Hp} {a : Addr} (hA : ∀ b, H b ≠ none → b = a) (b : Addr) : H b = none ∨ b = a := by
  cases q : H b with
  | none => exact Or.inl rfl
  | some u => exact Or.inr (hA b (by rw [q]; exact fun z => nomatch z))
theorem lawG_core {P : Program} {w : World} {K : PySem.W.Frag} {mg mb : Str → Option Value} {CX : CXT} {k : Nat} {fa a : Addr}
    {fd : FuncData} {x : Str} {sp : Sp} {s₁ : Shared} {vs : List Value} {H : Hp}
    (KI : K.In s₁.heap) (hns : s₁.heap.Ns mainGlobals mg) (hb : s₁.heap.Ns builtinsNs mb)
    (hbb : ∀ x : Str, x ≠ "__name__" → mb x = bootBuiltins x) (hlim : s₁.heap.NoLimit) (hg : s₁.gens = #[])
    (ha : s₁.heap.get? a = some { cls := .type "list", data := .seq vs.toArray }) (hr : Room k callerA)
    (F : ∀ base : Heap, K.In base → base.Ns mainGlobals mg → FnR P w K mg base CX (CG k) fa fd [x] sp)
    (hbind : ∀ (s : Shared) (u : Value), BindsTo s fd ⟨[u], []⟩ [(x, u)])
    (hCX : ∀ H e s', CX [] H s₁ (fun _ _ _ => False) e s' → False)
    (hO : Only H) (hS : sp [.ref a] H (fun v _ => v = .bl true) fun _ _ _ => False) (hok : HOk P w H s₁.heap)
    (hA : ∀ b, H b ≠ none → b = a) (hK : H a ≠ none → K.lookup a = none) :
    codeAny (model P w) callerA (.call (.ref fa) ⟨[.ref a], []⟩)
      (fun r s' => r = .ok (.ret (.bool true)) ∧ OldK s₁.heap s'.heap ∧ s'.os = s₁.os ∧ AllBare s'.gens) s₁ := by
  have dictFree : ∀ {b : Addr} {o : Obj} {es : Array DictEntry} {ep : Nat}, s₁.heap.get? b = some o → o.data = .dict es ep → H b = none :=
    fun {b o es ep} e d => (none_or_at hA b).resolve_right fun z => by
      subst z
      rw [ha] at e
      cases e
      have d' : Data.seq vs.toArray _ = Data.dict es ep := d
      cases d'
  have ns' : ∀ {b : Addr} {m : Str → Option Value}, s₁.heap.Ns b m → (hidT s₁.heap H).Ns b m := fun {b m} n => by
    obtain ⟨o, es, ep, e, d, r⟩ := n
    exact ⟨o, es, ep, hidT_get e (dictFree e d), d, r⟩
  have KB : K.In (hidT s₁.heap H) := fun b o e => by
    cases q : H b with
    | none => exact hidT_get (KI b o e) q
    | some u =>
      have eb : b = a := hA b (by rw [q]; exact fun z => nomatch z)
      subst eb
      rw [hK (by rw [q]; exact fun z => nomatch z)] at e
      cases e
  have MB : Mod K mg (hidT s₁.heap H) := by
    obtain ⟨mc, h1, h2⟩ := hlim
    exact ⟨KB, ns' hns, ⟨mb, ns' hb, hbb⟩, ⟨mc, ns' h1, h2⟩⟩
  have e0 : Env0 P w K mg (hidT s₁.heap H) callerA [] s₁ H :=
    ⟨rfl, MB, fun b o e => of_hidT e, Nat.le_of_eq (hidT_size _ _), trivial,
      fun b hb => absurd (show b ∈ ([] : List Addr) from hb) (by simp), hok, .of_eq hg⟩
  refine codeAny_mono ((F _ KB (ns' hns)).does callerA [] s₁ H ⟨[.ref a], []⟩ [.ref a] [.ref a] _ _ ⟨hr, rfl⟩ e0
    (hbind s₁ (.ref a)) (.cons rfl .nil) hS) fun r s' h => ?_
  match r, h with
  | .error e, h => exact (hCX H e s' h).elim
  | .ok (.ret u), h =>
    obtain ⟨v, H', os, bare, un, hok', r', q⟩ := h
    have q' : v = .bl true := q
    subst q'
    obtain rfl : u = Value.bool true := r'
    refine ⟨rfl, OldK.of_keep fun b o e => ?_, os, bare⟩
    cases q : H b with
    | none => exact un.keep b o e q (by intro z; exact absurd (show b ∈ ([] : List Addr) from z) (by simp)) (by simp)
    | some u =>
      rcases hO b with z | ⟨ob, xs, z⟩
      · rw [q] at z
        cases z
      · have e1 := (hok b _ z).1
        have e2 := (hok' b _ (un.frzs b ob _ z)).1
        rw [e] at e1
        cases e1
        exact e2
theorem law_callG {P : Program} {w : World} {K : PySem.W.Frag} {mg mb : Str → Option Value} {CX : CXT} {k : Nat} {fa a : Addr}
    {fd : FuncData} {x : Str} {sp : Sp} {s₁ : Shared} {vs : List Value} {ns : List Int}
    (KI : K.In s₁.heap) (hns : s₁.heap.Ns mainGlobals mg) (hb : s₁.heap.Ns builtinsNs mb)
    (hbb : ∀ x : Str, x ≠ "__name__" → mb x = bootBuiltins x) (hlim : s₁.heap.NoLimit) (hg : s₁.gens = #[])
    (ha : s₁.heap.get? a = some { cls := .type "list", data := .seq vs.toArray }) (hi : IntsAre vs ns)
    (hl : ns.length ≤ sizeLine) (hr : Room k callerA)
    (F : ∀ base : Heap, K.In base → base.Ns mainGlobals mg → FnR P w K mg base CX (CG k) fa fd [x] sp)
    (hbind : ∀ (s : Shared) (u : Value), BindsTo s fd ⟨[u], []⟩ [(x, u)])
    (hsp : ∀ H : Hp, Only H → SqL K H a (ns.map V.int) → sp [.ref a] H (fun v _ => v = .bl true) fun _ _ _ => False)
    (hCX : ∀ H e s', CX [] H s₁ (fun _ _ _ => False) e s' → False) :
    codeAny (model P w) callerA (.call (.ref fa) ⟨[.ref a], []⟩)
      (fun r s' => r = .ok (.ret (.bool true)) ∧ OldK s₁.heap s'.heap ∧ s'.os = s₁.os ∧ AllBare s'.gens) s₁ := by
  have rv := vals_ints hi
  cases hk : K.lookup a with
  | some o =>
    have e := KI a o hk
    rw [ha] at e
    cases e
    have O : Only fun _ => none := fun _ => Or.inl rfl
    have S : SqL K (fun _ => none) a (ns.map V.int) :=
      Or.inr ⟨_, vs.toArray, _, hk, rfl, rfl, rfl, by rw [List.size_toArray, hi.length]; exact hl, by simpa using rv⟩
    exact lawG_core KI hns hb hbb hlim hg ha hr F hbind hCX O (hsp _ O S) (fun b u z => nomatch z) (fun b z => absurd rfl z)
      fun z => absurd rfl z
  | none =>
    let H : Hp := fun b => if b = a then
      some (.frz { cls := .type "list", data := .seq vs.toArray } (.lst (ns.map V.int))) else none
    have at_ : H a = some (.frz { cls := .type "list", data := .seq vs.toArray } (.lst (ns.map V.int))) := if_pos rfl
    have off : ∀ {b}, b ≠ a → H b = none := fun h => if_neg h
    have O : Only H := fun b => by
      by_cases h : b = a
      · subst h
        exact Or.inr ⟨_, _, at_⟩
      · exact Or.inl (off h)
    have S : SqL K H a (ns.map V.int) := Or.inl (Or.inr ⟨_, at_⟩)
    refine lawG_core (H := H) KI hns hb hbb hlim hg ha hr F hbind hCX O (hsp _ O S) (fun b u z => ?_)
      (fun b z => Classical.byContradiction fun h => z (off h)) fun _ => hk
    by_cases h : b = a
    · subst h
      rw [at_] at z
      cases z
      exact ⟨ha, by rw [List.length_map]; exact hl, vs, _, rv, ha⟩
    · rw [off h] at z
      cases z
/-- what k_head leaves, by the law's promise under CG -/
theorem walk_ofG {l : PySem.W.OpenLaw} {n k : Nat} {q : Program} {loose : List Str} {XP : (Str → Option Value) → Heap → Prop}
    {YP : World → Heap → Prop} {d : DefRec} {K : Params → PySem.W.Frag} {CX : CXT} {sp : PySem.W.Frag → Sp} {x : Str}
    (hn : l.most = some n) (hn2 : n ≤ sizeLine) (hdf : d.params.defaults = []) (hr : Room k callerA)
    (hY : ∀ (w : World) (h : Heap), YP w h → (K w.params).In h)
    (F : ∀ (w : World) (mg : Str → Option Value) (fa : Addr) (h : Heap), (K w.params).In h → h.Ns mainGlobals mg →
      mg d.name = some (.ref fa) → ∃ fd : FuncData, (∀ (s : Shared) (u : Value), BindsTo s fd ⟨[u], []⟩ [(x, u)]) ∧
        ∀ base : Heap, (K w.params).In base → base.Ns mainGlobals mg →
          FnR l.prog w (K w.params) mg base CX (CG k) fa fd [x] (sp (K w.params)))
    (hsp : ∀ (K : PySem.W.Frag) (H : Hp) (a : Addr) (ns : List Int), ns.length ≤ n → Only H → SqL K H a (ns.map V.int) →
      sp K [.ref a] H (fun v _ => v = .bl true) fun _ _ _ => False)
    (hCX : ∀ (H : Hp) (s : Shared) (e : Value) (s' : Shared), CX [] H s (fun _ _ _ => False) e s' → False) :
    PySem.W.WalkO q loose XP YP l.row.toRowW d [] (fun f vs => PySem.call f vs) := by
  refine Att.attach_call hn hdf fun w s₀ s₁ mg mb fa o pm cd doc a vs ns G Y ho hd hcd hmg hobj hints hlen hg => ?_
  have KI := hY w _ Y
  obtain ⟨fd, hb, hF⟩ := F w mg fa _ KI G.T.g hmg
  exact law_callG KI G.T.g G.T.b G.T.builtins G.T.nolimit hg hobj hints (Nat.le_trans hlen hn2) hr hF hb
    (fun H hO hS => hsp (K w.params) H a ns hlen hO hS) fun H e s' => hCX H s₁ e s'
end KX

namespace KX
open PySem PySem.Spec PyProof.Rows L2
/-! calls by keywords alone -/
section
variable {X : Cx} {CX : CXT} {k : Nat} {f : Addr} {fd : FuncData} {ps ks : List Str} {sp : Sp} {E : XK} {x : Str} {p pos : Pos}
  {kws : List Keyword} {t tk : TA} {g : List Value → List Value → List Value} {gV : List V → List V → List V}
def tCallK (m : Nat) (sp : Sp) (gV : List V → List V → List V) (E : XK) (tk : TA) : TE := fun σ H Q =>
  tk σ H fun zs H2 => zs.length = m ∧ sp (gV [] zs) H2 Q E
theorem pe_callK (F : FnOk X.prog X.w X.K X.mg X.base CX k f fd ps sp) (hr : Room k X.A) (hg : Gl X x) (hm : X.mg x = some (.ref f))
    (hk : PySem.W.keepIn X.K (.ref f) = true) (hb : KBn X.K fd ps 0 ks g gV) (hx : Passes CX X E) (hkw : PK X kws tk)
    (hall : (backToKw pos (keywordEach kws X.env)).all (·.1.isSome) = true := by rfl)
    (hks : (backToKw pos (keywordEach kws X.env)).filterMap (·.1) = ks := by rfl)
    (hdb : (x == ("__debug__" : Str)) = false := by decide)
    (hpl : ((backTo pos (starEach [] X.env)).any (·.1) || (backToKw pos (keywordEach kws X.env)).any (·.1.isNone)) = false := by rfl) :
    PE X (.Call (.Name x p) [] kws pos) (tCallK ks.length sp gV E tk) := by
  refine ⟨fun pins s σ H Q I h => wpAny_Call_Name_kw (ld_glob I hg hm ?_ hdb)⟩
  refine PySem.W.callWith_KW0 (h₀ := X.base) I.ok.mod.kin hk hall (thn (hkw.run pos pins s σ H _ I h) fun ws s2 hh => ?_) hpl
  obtain ⟨zs, H2, I2, rz, l2, q2⟩ := hh
  refine ⟨I2.kIn, ?_⟩
  rw [hks]
  exact run_fnN (us := []) (vs := []) F hr hb hx I2 .nil rz rfl l2 q2
/-- two parameters by keywords, in the other order -/
theorem kb_swap {K : PySem.W.Frag} {fd : FuncData} {a b : Str}
    (h : ∀ u v : Value, bindArgs fd ⟨[], [(b, v), (a, u)]⟩ = pure [(a, u), (b, v)]) :
    KBn K fd [a, b] 0 [b, a] (fun _ ws => ws.reverse) (fun _ zs => zs.reverse) where
  to := fun s us ws _ h0 h2 => by
    match us, ws, h0, h2 with
    | [], [v, u], _, _ => exact .of_eq (h u v)
  rel := fun {vs us zs ws} _ r => by
    induction r with
    | nil => exact .nil
    | cons q _ ih =>
      rw [List.reverse_cons, List.reverse_cons]
      exact ih.append (.cons q .nil)
/-- two parameters by keywords, in their order -/
theorem kb_both {K : PySem.W.Frag} {fd : FuncData} {a b : Str}
    (h : ∀ u v : Value, bindArgs fd ⟨[], [(a, u), (b, v)]⟩ = pure [(a, u), (b, v)]) :
    KBn K fd [a, b] 0 [a, b] (fun _ ws => ws) (fun _ zs => zs) where
  to := fun s us ws _ h0 h2 => by
    match us, ws, h0, h2 with
    | [], [u, v], _, _ => exact .of_eq (h u v)
  rel := fun _ r => r
/-- the second one of two by keyword -/
theorem kb_second {K : PySem.W.Frag} {fd : FuncData} {a b : Str}
    (h : ∀ u v : Value, bindArgs fd ⟨[u], [(b, v)]⟩ = pure [(a, u), (b, v)]) :
    KBn K fd [a, b] 1 [b] (fun us ws => us ++ ws) (fun vs zs => vs ++ zs) where
  to := fun s us ws _ h0 h2 => by
    match us, ws, h0, h2 with
    | [u], [v], _, _ => exact .of_eq (h u v)
  rel := fun r1 r2 => r1.append r2
end
/-! // by any number that is not 0 -/
def CDivA (_ j : Int) : Prop := j ≠ 0 ∧ j.natAbs.log2 < 9000
theorem op_fdivA {X : Cx} : OpR X (binaryOp .FloorDiv) (rI CDivA fun i j => .int (i.fdiv j)) := opI fun i j _ _ _ _ _ hc q =>
  floordiv_int hc.1 q (.inl (PyProof.noPylong_of_log2 hc.2))
/-! which values are integers -/
inductive Kin (K : PySem.W.Frag) (H : Hp) : V → Option Int → Prop
  | int (i : Int) : Kin K H (.int i) (some i)
  | oth {x : V} {n : String} {b1 b2 : Bool} (t : TyX K H x (.type n)) (h1 : kitB n "int" = some b1) (h2 : kitB n "bool" = some b2)
      (h : (b1 && !b2) = false) : Kin K H x none
theorem Kin.ty {K : PySem.W.Frag} {H : Hp} {x : V} {o : Option Int} (k : Kin K H x o) :
    ∃ n b1 b2, TyX K H x (.type n) ∧ kitB n "int" = some b1 ∧ kitB n "bool" = some b2 ∧ (b1 && !b2) = o.isSome := by
  cases k with
  | int i => exact ⟨"int", true, false, .base (.int i), by decide +kernel, by decide +kernel, rfl⟩
  | oth t h1 h2 h => exact ⟨_, _, _, t, h1, h2, h⟩
end KX

namespace KX
open PySem PySem.Spec PyProof.Rows L2
section
variable {X : Cx} {C fI : Addr} {en qn : Str}
theorem pmk_errZ {a : Expr} {ta : TA} {p pos : Pos} {k : Nat} (T : PySem.ErrX.ErrTxt X.K X.mg en qn C fI) (hr : Room k X.A) (ha : PA X [a] ta) (hg : Gl X en := by rfl) (hdb : (en == ("__debug__" : Str)) = false := by decide)
    (he : starEach (a :: []) X.env = (false, eval a X.env) :: starEach [] X.env := by rfl) (hpl : (backTo pos (starEach [] X.env)).any (·.1) = false := by rfl) :
    L2.PMk X (.Call (.Name en p) [a] [] pos) (tMkErr C ta) := fun pins s σ H Q I h => by
  refine wpAny_mono (pmk_err T hr ha hg hdb he hpl pins s σ H Q I h) (fun u s' hu => ?_) fun _ _ x => x
  obtain ⟨a, oe, vs, sI, H', cls, d, h1, h2, h3, h4, h5, hz, h6⟩ := hu
  exact ⟨a, oe, vs, sI, H', cls, d, h1, h2, h3, h4, h5, hz.zc, h6⟩
theorem ps_raiseErrZ {a : Expr} {ta : TA} {W : WX} {p pos pos2 : Pos} {k : Nat} (hc : X.calm = true) (T : PySem.ErrX.ErrTxt X.K X.mg en qn C fI) (hr : Room k X.A) (tk : L2.Takes X W) (ha : PA X [a] ta) (hg : Gl X en := by rfl) (hdb : (en == ("__debug__" : Str)) = false := by decide)
    (he : starEach (a :: []) X.env = (false, eval a X.env) :: starEach [] X.env := by rfl) (hpl : (backTo pos (starEach [] X.env)).any (·.1) = false := by rfl) :
    PS X (.Raise (some (.Call (.Name en p) [a] [] pos)) none pos2) (tRaiseErr C W ta) := L2.ps_raise hc tk (pmk_errZ T hr ha hg hdb he hpl)
end
end KX

namespace KX
open PySem PySem.Spec PyProof.Rows L2 L2H LamX
/-! the law's own call under CG, with one table of code objects -/
section
variable {P : Program} {w : World} {K : PySem.W.Frag} {mg mb : Str → Option Value} {CX : CXT} {k : Nat} {fa a c t : Addr}
  {fd : FuncData} {x : Str} {sp : Sp} {s₁ : Shared} {vs : List Value}
/-- only the script and the table are tracked -/
structure OnlyT (H : Hp) (a t : Addr) : Prop where
  tab : H t = some (.tbl #[])
  who : ∀ b, H b ≠ none → b = a ∨ b = t
  frz : ∀ u, H a = some u → ∃ o xs, u = .frz o (.lst xs)
theorem OnlyT.off {H : Hp} {b : Addr} (O : OnlyT H a t) (h1 : b ≠ a) (h2 : b ≠ t) : H b = none :=
  Classical.byContradiction fun z => (O.who b z).elim h1 h2
theorem lawT_core {H : Hp}
    (KI : K.In s₁.heap) (hns : s₁.heap.Ns mainGlobals mg) (hb : s₁.heap.Ns builtinsNs mb)
    (hbb : ∀ x : Str, x ≠ "__name__" → mb x = bootBuiltins x) (hlim : s₁.heap.NoLimit) (hg : s₁.gens = #[])
    (ht : s₁.heap.get? t = some { cls := .none, data := .fields #[] }) (nt : K.lookup t = none) (C : PySem.W.CodeHd s₁.heap c t)
    (hbm : ∃ (bm : Addr) (ob : Obj), mg "__builtins__" = some (.ref bm) ∧ bm ≠ builtinsNs ∧ s₁.heap.get? bm = some ob ∧ ob.cls = .type "module" ∧ ob.dict = some builtinsNs ∧ ob.data = .plain)
    (ha : s₁.heap.get? a = some { cls := .type "list", data := .seq vs.toArray }) (hr : Room k callerA)
    (F : ∀ base : Heap, K.In base → base.Ns mainGlobals mg → TabB base mg c t → FnR P w K mg base CX (CG k) fa fd [x] sp)
    (hbind : ∀ (s : Shared) (u : Value), BindsTo s fd ⟨[u], []⟩ [(x, u)])
    (hCX : ∀ H e s', CX [] H s₁ (fun _ _ _ => False) e s' → False)
    (O : OnlyT H a t) (hS : sp [.ref a] H (fun v _ => v = .bl true) fun _ _ _ => False) (hok : HOk P w H s₁.heap)
    (hK : H a ≠ none → K.lookup a = none) :
    codeAny (model P w) callerA (.call (.ref fa) ⟨[.ref a], []⟩)
      (fun r s' => r = .ok (.ret (.bool true)) ∧ OldK s₁.heap s'.heap ∧ s'.os = s₁.os ∧ AllBare s'.gens) s₁ := by
  have sees : ∀ {b : Addr} {o : Obj}, s₁.heap.get? b = some o → (∀ vs n, o.data ≠ .seq vs n) → o.data ≠ .fields #[] →
      (hidT s₁.heap H).get? b = some o := fun {b o} e h1 h2 => hidT_get e (O.off (fun z => by
        subst z
        rw [ha] at e
        cases e
        exact h1 _ _ rfl) fun z => by
        subst z
        rw [ht] at e
        cases e
        exact h2 rfl)
  have nsH : ∀ {b : Addr} {m : Str → Option Value}, s₁.heap.Ns b m → (hidT s₁.heap H).Ns b m := fun {b m} n => by
    obtain ⟨o, es, ep, e, d, r⟩ := n
    exact ⟨o, es, ep, sees e (fun vs n z => by rw [d] at z; cases z) (fun z => by rw [d] at z; cases z), d, r⟩
  have KB : K.In (hidT s₁.heap H) := fun b o e => hidT_get (KI b o e) (Classical.byContradiction fun z => by
    rcases O.who b z with h | h
    · subst h
      rw [hK z] at e
      cases e
    · subst h
      rw [nt] at e
      cases e)
  have MB : Mod K mg (hidT s₁.heap H) := by
    obtain ⟨mc, h1, h2⟩ := hlim
    exact ⟨KB, nsH hns, ⟨mb, nsH hb, hbb⟩, ⟨mc, nsH h1, h2⟩⟩
  have TB : TabB (hidT s₁.heap H) mg c t := by
    refine ⟨?_, ?_, fun z => ?_⟩
    · obtain ⟨o, us, file, tf, flags, tg, inF, text, tt, e1, r1, r2, r3, rest⟩ := C
      refine ⟨o, us, file, tf, flags, tg, inF, text, tt, sees e1 (fun vs n z => ?_) (fun z => ?_), r1, r2, r3, rest⟩
      · rw [r2] at z
        cases z
      · rw [r2] at z
        cases z
        simp at r3
    · obtain ⟨bm, ob, b1, b2, b3, b4, b5, b6⟩ := hbm
      refine ⟨bm, ob, b1, b2, fun q => ?_, fun q => ?_, sees b3 (fun vs n z => by rw [b6] at z; cases z) (fun z => by rw [b6] at z; cases z), b4, b5, b6⟩
      · obtain ⟨o, es, ep, e, hd, _⟩ := hns
        rw [q, e] at b3
        cases b3
        rw [hd] at b6
        cases b6
      · rw [q, ht] at b3
        cases b3
        cases b6
    · obtain ⟨o, es, ep, e, hd, _⟩ := hns
      rw [z, ht] at e
      cases e
      cases hd
  have e0 : Env0 P w K mg (hidT s₁.heap H) callerA [] s₁ H :=
    ⟨rfl, MB, fun b o e => of_hidT e, Nat.le_of_eq (hidT_size _ _), trivial,
      fun b hb => absurd (show b ∈ ([] : List Addr) from hb) (by simp), hok, .of_eq hg⟩
  refine codeAny_mono ((F _ KB (nsH hns) TB).does callerA [] s₁ H ⟨[.ref a], []⟩ [.ref a] [.ref a] _ _ ⟨hr, rfl⟩ e0
    (hbind s₁ (.ref a)) (.cons rfl .nil) hS) fun r s' h => ?_
  match r, h with
  | .error e, h => exact (hCX H e s' h).elim
  | .ok (.ret u), h =>
    obtain ⟨v, H', os, bare, un, hok', r', q⟩ := h
    have q' : v = .bl true := q
    subst q'
    obtain rfl : u = Value.bool true := r'
    obtain ⟨more, hm⟩ : ∃ more : Array Value, s'.heap.get? t = some { cls := .none, data := .fields more } := by
      obtain ⟨more, z⟩ := un.tbls t #[] O.tab
      exact ⟨_, hok' t _ z⟩
    have other : ∀ b o, b ≠ t → s₁.heap.get? b = some o → s'.heap.get? b = some o := fun b o nb e => by
      cases q : H b with
      | none => exact un.keep b o e q (by intro z; exact absurd (show b ∈ ([] : List Addr) from z) (by simp)) (by simp)
      | some u =>
        have eb : b = a := (O.who b (by rw [q]; exact fun z => nomatch z)).resolve_right nb
        subst eb
        obtain ⟨ob, xs, rfl⟩ := O.frz _ q
        have e1 := (hok b _ q).1
        have e2 := (hok' b _ (un.frzs b ob _ q)).1
        rw [e] at e1
        cases e1
        exact e2
    refine ⟨rfl, ⟨fun b o e => ?_, fun b o e => ?_⟩, os, bare⟩
    · by_cases h : b = t
      · subst h
        rw [ht] at e
        cases e
        exact .inr (.inl ⟨(C.tab ht).isCodeTable, rfl, #[], more, rfl, by rw [Array.empty_append]; exact hm⟩)
      · exact .inl (other b o h e)
    · by_cases h : b = t
      · subst h
        exact ⟨_, hm⟩
      · exact ⟨o, other b o h e⟩
theorem law_callT {ns : List Int}
    (KI : K.In s₁.heap) (hns : s₁.heap.Ns mainGlobals mg) (hb : s₁.heap.Ns builtinsNs mb)
    (hbb : ∀ x : Str, x ≠ "__name__" → mb x = bootBuiltins x) (hlim : s₁.heap.NoLimit) (hg : s₁.gens = #[])
    (ht : s₁.heap.get? t = some { cls := .none, data := .fields #[] }) (nt : K.lookup t = none) (C : PySem.W.CodeHd s₁.heap c t)
    (hbm : ∃ (bm : Addr) (ob : Obj), mg "__builtins__" = some (.ref bm) ∧ bm ≠ builtinsNs ∧ s₁.heap.get? bm = some ob ∧ ob.cls = .type "module" ∧ ob.dict = some builtinsNs ∧ ob.data = .plain)
    (ha : s₁.heap.get? a = some { cls := .type "list", data := .seq vs.toArray }) (hi : IntsAre vs ns) (hl : ns.length ≤ sizeLine) (hr : Room k callerA)
    (F : ∀ base : Heap, K.In base → base.Ns mainGlobals mg → TabB base mg c t → FnR P w K mg base CX (CG k) fa fd [x] sp)
    (hbind : ∀ (s : Shared) (u : Value), BindsTo s fd ⟨[u], []⟩ [(x, u)])
    (hsp : ∀ H : Hp, H t = some (.tbl #[]) → SqL K H a (ns.map V.int) → sp [.ref a] H (fun v _ => v = .bl true) fun _ _ _ => False)
    (hCX : ∀ H e s', CX [] H s₁ (fun _ _ _ => False) e s' → False) :
    codeAny (model P w) callerA (.call (.ref fa) ⟨[.ref a], []⟩)
      (fun r s' => r = .ok (.ret (.bool true)) ∧ OldK s₁.heap s'.heap ∧ s'.os = s₁.os ∧ AllBare s'.gens) s₁ := by
  have rv := vals_ints hi
  have nat : a ≠ t := fun z => by
    rw [z, ht] at ha
    cases ha
  cases hk : K.lookup a with
  | some o =>
    have e := KI a o hk
    rw [ha] at e
    cases e
    let H : Hp := fun b => if b = t then some (.tbl #[]) else none
    have atT : H t = some (.tbl #[]) := if_pos rfl
    have off : ∀ {b}, b ≠ t → H b = none := fun h => if_neg h
    have S : SqL K H a (ns.map V.int) :=
      Or.inr ⟨_, vs.toArray, _, hk, rfl, rfl, rfl, by rw [List.size_toArray, hi.length]; exact hl, by simpa using rv⟩
    have O : OnlyT H a t := ⟨atT, fun b z => Or.inr (Classical.byContradiction fun h => z (off h)), fun u z => by rw [off nat] at z; cases z⟩
    refine lawT_core KI hns hb hbb hlim hg ht nt C hbm ha hr F hbind hCX O (hsp _ atT S) (fun b u z => ?_) fun z => absurd (off nat) z
    by_cases h : b = t
    · subst h
      rw [atT] at z
      cases z
      exact ht
    · rw [off h] at z
      cases z
  | none =>
    let H : Hp := fun b => if b = a then some (.frz { cls := .type "list", data := .seq vs.toArray } (.lst (ns.map V.int))) else if b = t then some (.tbl #[]) else none
    have atA : H a = some (.frz { cls := .type "list", data := .seq vs.toArray } (.lst (ns.map V.int))) := if_pos rfl
    have atT : H t = some (.tbl #[]) := (if_neg (Ne.symm nat)).trans (if_pos rfl)
    have off : ∀ {b}, b ≠ a → b ≠ t → H b = none := fun h h' => (if_neg h).trans (if_neg h')
    have S : SqL K H a (ns.map V.int) := Or.inl (Or.inr ⟨_, atA⟩)
    have O : OnlyT H a t := ⟨atT, fun b z => by
      by_cases h : b = a
      · exact Or.inl h
      · exact Or.inr (Classical.byContradiction fun h' => z (off h h')), fun u z => by rw [atA] at z; cases z; exact ⟨_, _, rfl⟩⟩
    refine lawT_core KI hns hb hbb hlim hg ht nt C hbm ha hr F hbind hCX O (hsp _ atT S) (fun b u z => ?_) fun _ => hk
    by_cases h : b = a
    · subst h
      rw [atA] at z
      cases z
      exact ⟨ha, by rw [List.length_map]; exact hl, vs, _, rv, ha⟩
    · by_cases h' : b = t
      · subst h'
        rw [atT] at z
        cases z
        exact ht
      · rw [off h h'] at z
        cases z
end
/-- what k_head leaves, by the law's promise under CG; t: the table of the law's code object -/
theorem walk_ofT {l : PySem.W.OpenLaw} {n k : Nat} {q : Program} {loose : List Str} {XP : (Str → Option Value) → Heap → Prop}
    {YP : World → Heap → Prop} {d : DefRec} {K : Params → PySem.W.Frag} {CX : CXT} {x : Str} {c t : Addr} {sp : PySem.W.Frag → Sp}
    (hn : l.most = some n) (hn2 : n ≤ sizeLine) (hdf : d.params.defaults = []) (hr : Room k callerA)
    (hY : ∀ (w : World) (h : Heap), YP w h → (K w.params).In h)
    (hT : ∀ (w : World) (h : Heap), YP w h → h.get? t = some { cls := .none, data := .fields #[] })
    (hcd : ∀ w : World, PySem.W.codeHdIn (K w.params) c t = true) (nt : ∀ w : World, (K w.params).lookup t = none)
    (F : ∀ (w : World) (mg : Str → Option Value) (fa : Addr) (h : Heap), (K w.params).In h → h.Ns mainGlobals mg →
      mg d.name = some (.ref fa) → ∃ fd : FuncData, (∀ (s : Shared) (u : Value), BindsTo s fd ⟨[u], []⟩ [(x, u)]) ∧
        ∀ base : Heap, (K w.params).In base → base.Ns mainGlobals mg → TabB base mg c t →
          FnR l.prog w (K w.params) mg base CX (CG k) fa fd [x] (sp (K w.params)))
    (hsp : ∀ (K : PySem.W.Frag) (H : Hp) (a : Addr) (ns : List Int), ns.length ≤ n → H t = some (.tbl #[]) → SqL K H a (ns.map V.int) →
      sp K [.ref a] H (fun v _ => v = .bl true) fun _ _ _ => False)
    (hCX : ∀ (H : Hp) (s : Shared) (e : Value) (s' : Shared), CX [] H s (fun _ _ _ => False) e s' → False) :
    PySem.W.WalkO q loose XP YP l.row.toRowW d [] (fun f vs => PySem.call f vs) := by
  refine Att.attach_call hn hdf fun w s₀ s₁ mg mb fa o pm cd doc a vs ns G Y ho hd hcd' hmg hobj hints hlen hg => ?_
  have KI := hY w _ Y
  obtain ⟨fd, hb, hF⟩ := F w mg fa _ KI G.T.g hmg
  exact law_callT KI G.T.g G.T.b G.T.builtins G.T.nolimit hg (hT w _ Y) (nt w) (PySem.W.codeHd_of_K KI (hcd w)) G.T.bmain hobj hints (Nat.le_trans hlen hn2) hr hF hb
    (fun H hH hS => hsp (K w.params) H a ns hlen hH hS) fun H e s' => hCX H s₁ e s'
end KX

namespace KX
open PySem PySem.Spec PyProof.Rows L2
/-! lists or tuples walked -/
theorem PI.or {X : Cx} {tg l : Expr} {w1 w2 : TI} (h1 : PI X tg l w1) (h2 : PI X tg l w2) :
    PI X tg l (fun σ H R => w1 σ H R ∨ w2 σ H R) :=
  ⟨fun pins s σ H R I h => h.elim (h1.run pins s σ H R I) (h2.run pins s σ H R I)⟩
theorem CallR.or {X : Cx} {f : Value} {r1 r2 : List V → Hp → VK → Prop} (h1 : CallR X f r1) (h2 : CallR X f r2) :
    CallR X f (fun xs H Q => r1 xs H Q ∨ r2 xs H Q) :=
  fun pins s σ H xs us Q I r h => h.elim (h1 pins s σ H xs us Q I r) (h2 pins s σ H xs us Q I r)
/-! sorted of a tuple of ints -/
section
variable {prog : Program} {w : World} {A : Around} {s : Shared} {E : Value → Shared → Prop}
theorem collect_tup {l : Addr} {vs : List Value} {n : Nat} {dd : Option Addr} {sl : Array (Option Value)}
    {Q : List Value → Shared → Prop}
    (hl : s.heap.get? l = some ⟨.type "tuple", dd, .seq vs.toArray n, sl⟩) (hz : vs.length ≤ sizeLine)
    (h : Q vs { s with heap := ((s.heap.push (seqObj "list" #[] 0)).update
      s.heap.objs.size (Obj.mapSeq (· ++ vs.toArray))) }) :
    wpAny (model prog w) A (collect (.ref l)) Q E s := by
  unfold collect
  apply wpAny_bind
  apply wpAny_runValue
  refine codeAny_builtin
    entry_proto_collect' ?_
  show wpAny _ _ (do
    again (.builtin "list.__iadd__" ⟨[← newList [], .ref l], []⟩)) _ _ s
  apply wpAny_bind
  refine wpAny_newList
    (wpAny_pure ⟨Code.quiet_builtin _ (by decide +kernel), ?_⟩)
  refine codeAny_builtin
    entry_list_iadd' ?_
  show wpAny _ _
    (Builtin.List.listExtendWith (.ref s.heap.objs.size) (.ref l) (.ref s.heap.objs.size)) _ _
    { s with heap := s.heap.push (seqObj "list" #[] 0) }
  unfold Builtin.List.listExtendWith
  have hl' : (s.heap.push (seqObj "list" #[] 0)).get? l = some ⟨.type "tuple", dd, .seq vs.toArray n, sl⟩ :=
    Heap.get?_push_of_some _ hl
  apply wpAny_bind
  refine wpAny_typeOf (T := "tuple")
    ⟨_, hl', rfl⟩ ?_
  have ht : (Value.type "tuple" == Value.type "tuple") = true := by rfl
  rw [if_pos (by rw [ht]; simp)]
  apply wpAny_bind
  refine listItems_at hl' rfl ?_
  apply wpAny_bind
  have hn : (s.heap.push (seqObj "list" #[] 0)).get? s.heap.objs.size = some (seqObj "list" #[] 0) :=
    Heap.get?_push_size _ rfl
  refine listItems_at (xs := #[]) (n := 0) hn rfl ?_
  rw [if_neg (by simp)]
  apply wpAny_bind
  refine listUpdate_at (xs := #[]) (n := 0) hn rfl ?_ (Nat.zero_le _)
    (by
      show (#[] ++ vs.toArray).size ≤ sizeLine + 1
      simp only [Array.size_append, List.size_toArray, List.length_nil]
      omega)
  apply wpAny_pure
  show wpAny (model prog w) A (do
      match (← load s.heap.objs.size).data with
      | .seq xs _ => pure xs.toList
      | _ => unsupported "internal:collect") Q E
    { s with heap := ((s.heap.push (seqObj "list" #[] 0)).update
      s.heap.objs.size (Obj.mapSeq (· ++ vs.toArray))) }
  apply wpAny_bind
  refine wpAny_load (get?_update_seq hn _) ?_
  show wpAny _ _ (pure ((#[] : Array Value) ++ vs.toArray).toList) Q E _
  have e : ((#[] : Array Value) ++ vs.toArray).toList = vs := by simp
  rw [e]
  exact wpAny_pure h
theorem sorted_tup {l : Addr} {vs : List Value} {ns : List Int} {n : Nat} {dd : Option Addr} {sl : Array (Option Value)}
    {Q : Value → Shared → Prop}
    (hl : s.heap.get? l = some ⟨.type "tuple", dd, .seq vs.toArray n, sl⟩) (hI : IntsAre vs ns) (h64 : vs.length < 64)
    (h : ∀ (out : Array Value) (ns' : List Int), IntsAre out.toList ns' → ns'.Perm ns → ns'.Pairwise (· ≤ ·) →
      Q (.ref (s.heap.objs.size + 1)) { s with heap := sortedAll s.heap vs out }) :
    wpAny (model prog w) A (call (.builtin "sorted") [.ref l]) Q E s := by
  refine Calls.call_function_entry
    kind_sorted plain_sorted entry_sorted (args_sorted1 _) ?_
  unfold Builtin.«sorted»
  refine wpAny_bind (m := checkCount "sorted" 1 1 _)
    (wpAny_pure ?_)
  apply wpAny_bind
  refine collect_tup hl (Nat.le_of_lt (Nat.lt_trans h64 (by decide))) ?_
  apply wpAny_bind
  refine wpAny_newList ?_ (hsz := Nat.le_of_lt (Nat.lt_trans h64 (by decide)))
  have hs2 : ((s.heap.push (seqObj "list" #[] 0)).update s.heap.objs.size
      (Obj.mapSeq (· ++ vs.toArray))).objs.size = s.heap.objs.size + 1 := by
    rw [Heap.size_update]
    exact Heap.size_push ..
  have ho : (((s.heap.push (seqObj "list" #[] 0)).update s.heap.objs.size
      (Obj.mapSeq (· ++ vs.toArray))).push (seqObj "list" vs.toArray 0)).get? (s.heap.objs.size + 1) =
      some (seqObj "list" vs.toArray 0) := by
    rw [← hs2]
    exact Heap.get?_push_size _ rfl
  show wpAny _ _ _ _ _
    { s with heap := (((s.heap.push (seqObj "list" #[] 0)).update s.heap.objs.size
      (Obj.mapSeq (· ++ vs.toArray))).push (seqObj "list" vs.toArray 0)) }
  rw [hs2]
  apply wpAny_bind
  apply wpAny_holding
  refine wpAny_call_entry slot_list_sort ⟨_, ho, rfl⟩ entry_list_sort ?_ (args_list_sort _)
  refine list_sort_tree ho hI h64 fun out ns' a1 a2 a3 => ⟨_, rfl, ?_⟩
  exact wpAny_pure ⟨_, rfl, h out ns' a1 a2 a3⟩
end
def rSortT (K : PySem.W.Frag) : List V → Hp → VK → Prop := fun vs H Q =>
  ∃ (a : Addr) (ns : List Int), vs = [V.ref a] ∧ SqT K H a (ns.map V.int) ∧ ns.length < 64 ∧
    ∀ (ns' : List Int) (p : Addr), ns'.Perm ns → ns'.Pairwise (· ≤ ·) → H p = none →
      Q (.ref p) (upd H p (.lst (ns'.map V.int)))
theorem cr_sortT {X : Cx} : CallR X (.builtin "sorted") (rSortT X.K) := by
  intro pins s σ H vs us Q I r h
  obtain ⟨a, ns, rfl, hs, h64, q⟩ := h
  obtain ⟨its, rv, ⟨⟨cls, dd, data, sl⟩, ho, hc, n, hd⟩, _⟩ := I.tuple hs
  simp only at hc hd
  subst hc hd
  rw [Vals.ref1 r]
  have hi := rv.ints
  refine sorted_tup ho hi (by rw [hi.length]; exact h64) fun out ns' h1 h2 h3 => ?_
  obtain ⟨ep, he⟩ := sortedAll_at s.heap its out
  have hlen : (ns'.map V.int).length ≤ sizeLine := by
    rw [List.length_map, h2.length_eq]
    exact Nat.le_of_lt (Nat.lt_trans h64 (by decide))
  refine ⟨.ref _, upd H (s.heap.objs.size + 1) (.lst (ns'.map V.int)), ?_, rfl,
    q ns' _ h2 h3 (I.hok.fresh (Nat.le_succ _))⟩
  exact I.laid (t' := s.toks) (fun _ _ => sortedAll_old) (Nat.le_succ _)
    ⟨hlen, out.toList, ep, vals_of_ints h1, he⟩
/-! t.count(k) of a tuple of ints -/
def rCntT (K : PySem.W.Frag) : V → List V → Hp → VK → Prop := fun x xs H Q =>
  ∃ (p : Addr) (ns : List Int) (k : Int), x = .ref p ∧ xs = [.int k] ∧ SqT K H p (ns.map V.int) ∧
    Q (.int (ns.count k : Nat)) H
theorem mt_tcount {X : Cx} : MtR X "tuple.count" (rCntT X.K) := by
  intro pins s σ H x xs v us Q I rx rxs h
  obtain ⟨p, ns, k, rfl, rfl, hs, q⟩ := h
  cases rx
  obtain ⟨u, rfl, ru⟩ := rxs.one
  obtain ⟨t, rfl⟩ := ru
  obtain ⟨its, rv, ⟨⟨cls, dd, data, sl⟩, ho, hc, n, hd⟩, _⟩ := I.tuple hs
  simp only at hc hd
  subst hc hd
  have hi := ints_of_vals rv
  refine call_meets PySem.F.slot_tuple_count ⟨_, ho, rfl⟩ PySem.F.entry_tuple_count
    (PySem.F.args_tuple_count_2 _ _) (SeqAt.tuple_countAt p its.toArray n dd sl (.int k t) (eqk k)) ⟨ho, ?_, ?_⟩
  · exact fun y hy => (eqk_gives hi y (by simpa using hy)).at _ _
  · have ec : its.toArray.toList.countP (eqk k) = ns.count k := eqk_count hi
    refine ⟨.int (ns.count k : Nat), H, I.tok _, ⟨s.toks, ?_⟩, q⟩
    show Value.int ((its.toArray.toList.countP (eqk k) : Nat) : Int) s.toks = _
    rw [ec]
end KX

namespace KX
open PySem PySem.Spec PyProof.Rows L2
/-! a tuple, frozen or not -/
abbrev Tup (H : Hp) (a : Addr) (xs : List V) : Prop := Rd H a (.tup xs)
theorem Tup.of {H : Hp} {a : Addr} {xs : List V} (h : H a = some (.tup xs)) : Tup H a xs := Or.inl h
theorem Tup.sq {K : PySem.W.Frag} {H : Hp} {a : Addr} {xs : List V} (h : Tup H a xs) : SqT K H a xs := Or.inl h
theorem Tup.ty {K : PySem.W.Frag} {H : Hp} {a : Addr} {xs : List V} (h : Tup H a xs) : TyX K H (.ref a) (.type "tuple") := by
  rcases h with h | ⟨o, h⟩
  · exact .base (.tup h)
  · exact .fTuple h
theorem Tup.same {H H' : Hp} {a : Addr} {xs : List V} (h : Tup H a xs) (s : Same H H') : Tup H' a xs := by
  rcases h with h | ⟨o, h⟩
  · exact Or.inl (s _ _ h)
  · exact Or.inr ⟨o, s _ _ h⟩
/-- a tuple whose object is known: without a dict -/
def TupF (H : Hp) (a : Addr) (xs : List V) : Prop := ∃ o : Obj, H a = some (.frz o (.tup xs)) ∧ o.cls = .type "tuple" ∧ o.dict = none
theorem TupF.tup {H : Hp} {a : Addr} {xs : List V} (h : TupF H a xs) : Tup H a xs := by
  obtain ⟨o, h, _⟩ := h
  exact Or.inr ⟨o, h⟩
theorem TupF.same {H H' : Hp} {a : Addr} {xs : List V} (h : TupF H a xs) (s : Same H H') : TupF H' a xs := by
  obtain ⟨o, h, z⟩ := h
  exact ⟨o, s _ _ h, z⟩
section
variable {X : Cx}
/-- tuple(l), l a list: the new tuple's object is known -/
def kTupF (K : PySem.W.Frag) (x : V) (H : Hp) (Q : VK) : Prop := ∃ p xs, x = .ref p ∧ SqL K H p xs ∧
  ∀ q (o : Obj), H q = none → o.cls = .type "tuple" → o.dict = none → Q (.ref q) (upd H q (.frz o (.tup xs)))
theorem pe_tupleF {a : Expr} {ta : TE} {p pos : Pos} (hg : Gl X "tuple") (hm : X.mg "tuple" = none) (ha : PE X a ta)
    (na : starEach [a] X.env = (false, eval a X.env) :: starEach [] X.env := by rfl) :
    PE X (.Call (.Name "tuple" p) [a] [] pos) (tThen ta (kTupF X.K)) := by
  refine ⟨fun pins s σ H Q I h => Call_ (ld_blt I hg hm boot_tuple (PyProof.Rows.callWith_type1 (one_arg ha I h (fun v s2 x H2 I2 r q => ?_) na) na))⟩
  obtain ⟨l, xs, rfl, hs, hq⟩ := q
  obtain rfl : v = .ref l := r
  obtain ⟨its, rv, pl, hz⟩ := I2.list hs
  have hsz : its.toArray.size ≤ sizeLine := by
    rw [List.size_toArray, ← rv.length]
    exact hz
  refine call_tuple_list pl.isList (fun h' hk => ?_) hsz
  have J : Inv X pins σ H2 { s2 with heap := h' } := I2.kept (t' := s2.toks) hk
  have nq : H2 h'.objs.size = none := J.hok.fresh (Nat.le_refl _)
  refine ⟨.ref h'.objs.size, _, J.laid (t' := s2.toks) (fun b o e => Heap.get?_push_of_some _ e) (Nat.le_refl _) ?_, rfl,
    hq h'.objs.size { cls := .type "tuple", data := .seq its.toArray } nq rfl rfl⟩
  exact ⟨Heap.get?_push_size _ rfl, hz, its, rv, IsTup.new _ _⟩
/-- a method of such a tuple, called -/
def tBMF (r : V → List V → Hp → VK → Prop) (to : TE) (t : TA) : TE := fun σ H Q =>
  to σ H fun x H1 => (∃ a xs, x = .ref a ∧ TupF H1 a xs) ∧ t σ H1 fun ys H2 => r x ys H2 Q
theorem pe_bmF {o e : Expr} {to : TE} {t : TA} {name : Str} {apos cpos : Pos} {id : String} {r : V → List V → Hp → VK → Prop}
    (slot : Slot "tuple" name id) (hty : typeOf (.builtin id) = pure (.type "method_descriptor")) (hm : MtR X id r) (ho : PE X o to) (ha : PA X [e] t)
    (hbase : attributeBase o name X.env (eval o X.env) = eval o X.env := by rfl)
    (hfew : ((backTo cpos (starEach [e] X.env)).all (fun x => !x.1) && (backToKw cpos (keywordEach [] X.env)).all (fun x => x.1.isSome)
      && decide ([e].length + ([] : List Keyword).length + (if ([] : List Keyword).isEmpty then 0 else 1) < 30)) = true := by rfl)
    (hline : (apos.endLine == cpos.line) = true := by rfl)
    (hs : starEach [e] X.env = (false, eval e X.env) :: starEach [] X.env := by rfl) (hplain : (backTo cpos (starEach [] X.env)).any (·.1) = false := by rfl) :
    PE X (.Call (.Attribute o name apos) [e] [] cpos) (tBMF r to t) := by
  constructor
  intro pins s σ H Q I h
  refine wpAny_Call_method_late hbase hfew hline rfl (thn (ho.run pins s σ H _ I h) fun v s1 hh => ?_)
  obtain ⟨x, H1, I1, r1, ⟨a, xs, rfl, ob, hob, hc, hd⟩, q1⟩ := hh
  obtain rfl : v = .ref a := r1
  have hget : s1.heap.get? a = some ob := (I1.hok a _ hob).1
  refine ⟨"tuple", id, PySem.F.plainAttrs_tuple, slot, hty, ⟨ob, hget, hc⟩, fun b z => by cases z; exact ⟨ob, hget, hd⟩, ?_⟩
  have hA := ha.run cpos pins s1 σ H1 _ I1 q1
  rw [hs] at hA ⊢
  refine Calls.callWith_builtin (by
    show (false || (backTo cpos (starEach [] X.env)).any (·.1)) = false
    rw [hplain] <;> rfl) (Calls.evalArgs_plain ?_)
  refine thn hA fun us s2 hz => ?_
  obtain ⟨vs, H2, I2, r2, q2⟩ := hz
  exact hm pins s2 σ H2 (.ref a) vs (.ref a) us Q I2 rfl r2 q2
end
end KX

namespace KX
open PySem PySem.Spec PyProof.Rows L2
/-! t + u and t[lo:hi] of tuples, by what they hold -/
theorem Same.fresh {H : Hp} {a : Addr} {o : HO} (n : H a = none) : Same H (upd H a o) := fun b u h => by
  rw [upd_ne (fun z => by rw [z, n] at h; cases h)]
  exact h
def rCatW : R2 := fun x y H Q => ∃ a b xs ys, x = .ref a ∧ y = .ref b ∧ Tup H a xs ∧ Tup H b ys ∧ xs.length + ys.length ≤ sizeLine ∧
  ∀ H' p, Same H H' → Tup H' p (xs ++ ys) → Q (.ref p) H'
theorem op_catW {X : Cx} : OpR X (binaryOp .Add) rCatW := by
  intro pins s σ H x y v u Q I rx ry h
  obtain ⟨a, b, xs, ys, e1, e2, ha, hb, hz, q⟩ := h
  refine op_catA pins s σ H x y v u Q I rx ry ⟨a, b, xs, ys, e1, e2, ha.sq, hb.sq, hz, fun e => ?_, fun _ e => ?_, fun _ _ p hp => ?_⟩
  · subst e
    exact q H b (Same.refl H) hb
  · subst e
    exact q H a (Same.refl H) (by rw [List.append_nil]; exact ha)
  · exact q _ p (Same.fresh hp) (Tup.of upd_same)
def rSlW : V → Option Int → Option Int → Hp → VK → Prop := fun x lo hi H Q => ∃ a xs, x = .ref a ∧ Tup H a xs ∧
  ∀ H' p, Same H H' → Tup H' p (cutV xs lo hi) → Q (.ref p) H'
theorem sl_tupW {X : Cx} : SlR X rSlW := by
  intro pins s σ H x v vl vu lo hi sl Q I rx hs pl pu h
  obtain ⟨a, xs, e1, ha, q⟩ := h
  refine sl_tupA pins s σ H x v vl vu lo hi sl Q I rx hs pl pu ⟨a, xs, e1, ha.sq, fun e => ?_, fun _ p hp => q _ p (Same.fresh hp) (Tup.of upd_same)⟩
  refine q H a (Same.refl H) ?_
  have z : cutV xs lo hi = xs := by
    unfold cutV
    rw [e.1, e.2]
    simp
  rw [z]
  exact ha
theorem cut_take (xs : List V) {i : Int} (h0 : 0 ≤ i) (h1 : i ≤ xs.length) : cutV xs none (some i) = xs.take i.toNat := by
  obtain ⟨n, rfl⟩ := Int.eq_ofNat_of_zero_le h0
  unfold cutV
  rw [HT.sIx_none, HT.sIx_nat]
  have : min n xs.length = n := by omega
  rw [this]
  simp
theorem cut_drop (xs : List V) {i : Int} (h0 : 0 ≤ i) (h1 : i ≤ xs.length) : cutV xs (some i) none = xs.drop i.toNat := by
  obtain ⟨n, rfl⟩ := Int.eq_ofNat_of_zero_le h0
  unfold cutV
  rw [HT.sIx_none, HT.sIx_nat]
  have : min n xs.length = n := by omega
  rw [this]
  have e : (xs.drop n).take (xs.length - n) = xs.drop n := List.take_of_length_le (by simp)
  simpa using e
end KX

namespace KX
open PySem PySem.Spec PyProof.Rows L2
/-! own == and != of instances, the other side of any class that is not below -/
theorem slot_objNe : Slot "object" "__ne__" "object.__ne__" :=
  Slot.of (T := "object") (name := "__ne__") (owner := "object") (n := "__ne__") (by rw [typeLookup_type, builtinLookup_eq_fast]; kernel_rfl) (by decide +kernel) (by decide +kernel) (by decide +kernel)
    (.inl (by decide +kernel)) (by rw [isSubtype_type]; kernel_rfl)
section
variable {prog : Program} {w : World} {A : Around} {E : Value → Shared → Prop} {s : Shared} {K : PySem.W.Frag} {x C L f : Addr} {ox : Obj} {od : Option Obj} {b tb : Value}
theorem objNe_K (X : K.In s.heap) (I : PySem.W.InstAt s.heap x ox C od) (hu : A.units < cLine) (hs : PySem.W.findIn K (.ref C) "__eq__" = some (some (.ref f))) (hf : PySem.W.isFn K (.ref f) = true) {Q : Fin → Shared → Prop}
    (hcall : wpAny (model prog w) A (call (.ref f) [.ref x, b]) (fun v s' => ∃ c, v = .bool c ∧ Q (.done (.ret (.bool (!c)))) s') E s) :
    wpAny (model prog w) A (Builtin.«object.__ne__» ⟨[.ref x, b], []⟩) Q E s := by
  unfold Builtin.«object.__ne__»
  repeat (first
    | with_reducible refine wpAny_cRoomFor hu ?_
    | (refine wpAny_bind (m := callSpecialIfBound? (.ref x) (Str.ofString "__eq__") [b])
        (PySem.W.ifBound_K X I hs hf (wpAny_mono hcall (fun r s' hr => by
          obtain ⟨c, rfl, hq⟩ := hr
          repeat (first | exact hq | exact wpAny_pure hq | exact wpAny_truthy_bool hq | (refine wpAny_bind (m := truthy (.bool _)) (wpAny_truthy_bool ?_)) | wp_step)) fun _ _ e => e)))
    | wp_step)
theorem ne_K {Q : Value → Shared → Prop} (hu : A.units + 1 < cLine) (X : K.In s.heap) (I : PySem.W.InstAt s.heap x ox C od) (hb : PySem.W.Looks (model prog w) s.heap (typeOf b) tb) (hn : PySem.W.notFirst K C tb = true)
    (hne : PySem.W.findIn K (.ref C) "__ne__" = some (some (.builtin "object.__ne__"))) (hm : PySem.W.mroIn K C (.type "object") = some true)
    (hs : PySem.W.findIn K (.ref C) "__eq__" = some (some (.ref f))) (hf : PySem.W.isFn K (.ref f) = true)
    (hcall : wpAny (model prog w) A.in1 (call (.ref f) [.ref x, b]) (fun v s' => ∃ c, v = .bool c ∧ Q (.bool (!c)) s') E s) :
    wpAny (model prog w) A (richCompare .NotEq (.ref x) b) Q E s := by
  have sub : PySem.W.Looks (model prog w) s.heap (isInstance (.ref x) (.type "object")) true := I.type.andThen (PySem.W.looks_mroIn X hm)
  have one : wpAny (model prog w) A (tryCompare (.ref x) "__ne__" b) (fun r s' => ∃ v, r = some v ∧ Q v s') E s := by
    unfold tryCompare
    refine wpAny_bind ?_
    simp only [callSpecialIfBound?, bindSpecialIfBound?]
    refine wpAny_holding (wpAny_bind (wpAny_bind (wpAny_bind (I.type.here ((PySem.W.looks_findIn X hne).here ?_)))))
    have fin : ∀ Q2 : Option Value → Shared → Prop, (∀ c s', Q (.bool (!c)) s' → Q2 (some (.bool (!c))) s') → wpAny (model prog w) A (call (.builtin "object.__ne__") ([.ref x] ++ [b]) >>= fun v => pure (some v)) Q2 E s := fun Q2 hQ2 => by
      refine wpAny_bind (wpAny_call (codeAny_call_builtin slot_objNe.plain F.cmpEntry_ne (PySem.W.check_slot F.cmpKind_ne F.cmpSplit_ne sub (F.cmpArgs_ne _ _) ?_)))
      refine objNe_K (A := A.in1) X I (Nat.lt_of_le_of_lt (by simp [Around.in1]) hu) hs hf (wpAny_mono hcall (fun v s' hv => ?_) fun _ _ e => e)
      obtain ⟨c, rfl, hq⟩ := hv
      exact ⟨c, rfl, wpAny_pure (hQ2 c s' hq)⟩
    refine wpAny_bind (wpAny_askSetting (wpAny_ite ?_))
    split
    · refine wpAny_bind ?_
      rw [slot_objNe.bind]
      exact wpAny_pure (wpAny_pure (fin _ fun c s' hq => wpAny_pure ⟨_, rfl, hq⟩))
    · refine wpAny_tryCatch (wpAny_bind ?_)
      rw [slot_objNe.bind]
      exact wpAny_pure (wpAny_pure (fin _ fun c s' hq => wpAny_pure ⟨_, rfl, hq⟩))
  unfold richCompare
  simp only [oneThing_ref]
  refine wpAny_holding (wpAny_bind (wpAny_cRoomFor (Nat.lt_of_succ_lt hu) ?_))
  refine wpAny_bind (I.type.here (wpAny_bind (hb.here ?_)))
  split
  · rename_i q
    have e : PySem.W.subIn K tb (.ref C) = some false := by
      rcases Bool.or_eq_true_iff.mp hn with e | e
      · rw [beq_iff_eq.mp e] at q; simp at q
      · exact beq_iff_eq.mp e
    refine wpAny_bind ((PySem.W.looks_subIn X e).here ?_)
    simp only [Bool.false_eq_true, if_false]
    refine wpAny_bind (wpAny_mono one (fun r s' z => ?_) fun _ _ e => e)
    obtain ⟨v, rfl, hq⟩ := z
    exact wpAny_pure hq
  · refine wpAny_bind (wpAny_pure ?_)
    simp only [Bool.false_eq_true, if_false]
    refine wpAny_bind (wpAny_mono one (fun r s' z => ?_) fun _ _ e => e)
    obtain ⟨v, rfl, hq⟩ := z
    exact wpAny_pure hq
end
/-- x == y, x != y: x an instance of the class at C with an own == that answers a bool -/
def rOwnC (K : PySem.W.Frag) (C : Addr) (sp : Sp) (neg : Bool) : R2 := fun x y H Q => ∃ a dx fs tb, x = .ref a ∧ H a = some (.ins C dx fs) ∧ TyX K H y tb ∧ PySem.W.notFirst K C tb = true ∧
  sp [x, y] H (fun z H' => ∃ c, z = .bl c ∧ Q (.bl (neg != c)) H') E0
/-- what of the class must be known -/
structure OwnC (K : PySem.W.Frag) (C f : Addr) : Prop where
  eq : PySem.W.findIn K (.ref C) "__eq__" = some (some (.ref f))
  fn : PySem.W.isFn K (.ref f) = true
  ne : PySem.W.findIn K (.ref C) "__ne__" = some (some (.builtin "object.__ne__"))
  top : PySem.W.mroIn K C (.type "object") = some true
section
variable {X : Cx} {C f : Addr} {fd : FuncData} {ps : List Str} {sp : Sp} {n : Nat}
theorem own_run (F : FnOk X.prog X.w X.K X.mg X.base CX0 n f fd ps sp) (hb : Binds X.K fd ps []) {A : Around} (hr : Room n A) (hA : A.frames = X.A.frames) {pins : List (Addr × Obj)} {s : Shared} {σ : L2.St} {H : Hp} {a : Addr} {y : V} {u : Value} {Q : VK}
    (I : Inv X pins σ H s) (ry : RelV y u) (h : sp [.ref a, y] H Q E0) : wpAny (model X.prog X.w) A (call (.ref f) [.ref a, u]) (EP X pins σ Q) X.xe s := by
  have e0 : Env0 X.prog X.w X.K X.mg X.base A X.stack s H := by
    have e := I.env0
    exact ⟨by rw [hA]; exact e.frames, e.mod, e.bs, e.bsz, e.funs, e.frf, e.hok, e.bare⟩
  have hl := F.len _ _ _ _ h
  have r2 : Vals [V.ref a, y] [Value.ref a, u] := .cons rfl (.cons ry .nil)
  refine wpAny_call (codeAny_mono (F.run A X.stack s H ⟨[.ref a, u], []⟩ [.ref a, u] [.ref a, y] _ E0 hr e0 (by
    have := hb s [.ref a, u] I.kIn (by simpa using hl)
    simpa using this) r2 h) fun r s' hq => ?_)
  cases r with
  | error e => exact (pass0 pins σ H s e s' I hq)
  | ok fl =>
    cases fl with
    | ret w => exact I.after hq
    | next => exact False.elim hq
    | brk => exact False.elim hq
    | cont => exact False.elim hq
theorem op_ownEq (O : OwnC X.K C f) (F : FnOk X.prog X.w X.K X.mg X.base CX0 n f fd ps sp) (hb : Binds X.K fd ps []) (hr : Room n X.A) : OpR X (compareOp .Eq) (rOwnC X.K C sp false) := by
  intro pins s σ H x y v u Q I rx ry h
  obtain ⟨a, dx, fs, tb, rfl, ha, ty, hn, q⟩ := h
  cases rx
  obtain ⟨mA, J, _⟩ := ins_get I.hok ha
  obtain ⟨od, J, _⟩ := J.look
  obtain ⟨m, hF⟩ := I.fr
  obtain ⟨P, Z, p, _⟩ := kit_of I ry ty
  show wpAny (model X.prog X.w) X.A (richCompare .Eq (.ref a) u) (EP X pins σ Q) X.xe s
  refine PySem.W.cmp_K (op := .Eq) (tb := tb) hr.units0 hF I.ok.mod.kin J (Z.ty _ _ I.kIn p) hn O.eq O.fn ?_
  refine wpAny_mono (own_run F hb hr rfl I ry q) (fun r s' z => ?_) fun _ _ x => x
  obtain ⟨z, H', I', rz, c, e, q'⟩ := z
  subst e
  obtain rfl : r = Value.bool c := rz
  have e : (false != c) = c := by cases c <;> rfl
  rw [e] at q'
  exact ⟨.bl c, H', I', rfl, q'⟩
theorem op_ownNe (O : OwnC X.K C f) (F : FnOk X.prog X.w X.K X.mg X.base CX0 n f fd ps sp) (hb : Binds X.K fd ps []) (hr : Room (n + 1) X.A) : OpR X (compareOp .NotEq) (rOwnC X.K C sp true) := by
  intro pins s σ H x y v u Q I rx ry h
  obtain ⟨a, dx, fs, tb, rfl, ha, ty, hn, q⟩ := h
  cases rx
  obtain ⟨mA, J, _⟩ := ins_get I.hok ha
  obtain ⟨od, J, _⟩ := J.look
  obtain ⟨P, Z, p, _⟩ := kit_of I ry ty
  show wpAny (model X.prog X.w) X.A (richCompare .NotEq (.ref a) u) (EP X pins σ Q) X.xe s
  refine ne_K (by have := hr.units; omega) I.kIn J (Z.ty _ _ I.kIn p) hn O.ne O.top O.eq O.fn ?_
  refine wpAny_mono (own_run F hb hr.in1 rfl I ry q) (fun r s' z => ?_) fun _ _ x => x
  obtain ⟨z, H', I', rz, c, e, q'⟩ := z
  subst e
  obtain rfl : r = Value.bool c := rz
  have e : (true != c) = !c := by cases c <;> rfl
  rw [e] at q'
  exact ⟨c, rfl, .bl (!c), H', I', rfl, q'⟩
end
end KX

/-! enumerate(t) of a tuple -/
namespace PySem
open Sem (wp)
theorem meets_enumerate_new1B {v : Value} {o : Obj} {H : Heap → Prop} (B : Begins v o H) :
    Meets (Builtin.«enumerate.__new__» ⟨[.type "enumerate", v], []⟩) (fun _ R s => H s.heap ∧
      R (.ok (.ret (.ref (s.heap.push o).objs.size))) { s with heap := (s.heap.push o).push { cls := .type "enumerate", data := .fields #[.none, .bool false, .ref s.heap.objs.size, rawInt 0, .none, .none] } }) :=
  .of_wp fun prog w A R s h => by
    obtain ⟨hp, g, d, tk, os⟩ := s; obtain ⟨h1, h⟩ := h
    have hsub := sub_enumerate
    have q1 : ∀ {A' : Around} {E : Value → Shared → Prop} {Q : Value → Shared → Prop}, Q (.ref hp.objs.size) ⟨hp.push o, g, d, tk, os⟩ → wpAny (model prog w) A' (pyIter v) Q E ⟨hp, g, d, tk, os⟩ :=
      fun q => B.iter prog w _ _ ⟨hp, g, d, tk, os⟩ _ h1 q
    wp_walk using q1
    refine wpAny_stack_any fun st => wpAny_pure ?_
    split
    · rename_i c _ _ _ _ _
      cases (c == Value.type "enumerate")
      · wp_walk using q1
        exact ⟨_, rfl, h⟩
      · wp_walk using q1
        exact ⟨_, rfl, h⟩
    · wp_walk using q1
      exact ⟨_, rfl, h⟩
section
variable {prog : Program} {w : World} {A : Around} {E : Value → Shared → Prop} {s : Shared}
/-- enumerate(v): its two new cells -/
theorem enum_begins1 {v : Value} {o : Obj} {H : Heap → Prop} {Q : Value → Shared → Prop} (B : Begins v o H) (h1 : H s.heap)
    (h : ∀ h', IsEnum h' (s.heap.objs.size + 1) s.heap.objs.size 0 .none → h'.get? s.heap.objs.size = some o → h'.objs.size = s.heap.objs.size + 2 →
      (∀ b o, s.heap.get? b = some o → h'.get? b = some o) → Q (.ref (s.heap.objs.size + 1)) { s with heap := h' }) :
    wpAny (model prog w) A (call (.type "enumerate") [v]) Q E s := by
  refine callType_new F.called_enumerate (by decide) (F.typeCall_enumerate_1 _) (F.newCall_enumerate_1 _) (fun obj => F.args_object_init_2 obj _) F.entry_enumerate_new
    (meets_enumerate_new1B B) ⟨h1, ?_⟩
  have hz : (s.heap.push o).objs.size = s.heap.objs.size + 1 := Heap.size_push ..
  show _ ∧ _
  rw [hz]
  have he : IsEnum ((s.heap.push o).push { cls := .type "enumerate", data := .fields #[.none, .bool false, .ref s.heap.objs.size, rawInt 0, .none, .none] }) (s.heap.objs.size + 1) s.heap.objs.size 0 .none := by
    have := Heap.get?_push_size (s.heap.push o) (o := { cls := .type "enumerate", data := .fields #[.none, .bool false, .ref s.heap.objs.size, rawInt 0, .none, .none] }) rfl
    rw [hz] at this; exact this
  refine ⟨⟨_, he, rfl⟩, h _ he (Heap.get?_push_of_some _ (Heap.get?_push_size _ B.free)) (by rw [Heap.size_push, hz]) fun b o x => Heap.get?_push_of_some _ (Heap.get?_push_of_some _ x)⟩
end
end PySem
namespace KX
open PySem PySem.Spec PyProof.Rows L2
/-- the tuple at a as it stands at each turn, each item in a new pair -/
def Itn (K : PySem.W.Frag) (a : Addr) : It :=
  ⟨fun i H => ∃ (xs : List V) (x : V), SqT K H a xs ∧ xs[i]? = some x, fun i H v H' => ∃ T x, v = .ref T ∧ H T = none ∧ H' = upd H T (.tup [.int (i : Nat), x]) ∧ ∀ xs, SqT K H a xs → xs[i]? = some x, fun i H => ∃ xs : List V, SqT K H a xs ∧ xs.length ≤ i⟩
theorem apart_tup {h : Heap} {a it : Addr} {its : Array Value} {i : Nat} (p : h.IsTuple a its) (q : h.IsTupleIter it a i) : a ≠ it := fun z => by
  obtain ⟨o, ho, hc, hd⟩ := q
  obtain ⟨o2, ho2, hc2, _⟩ := p
  rw [z, ho] at ho2
  cases ho2
  rw [hc] at hc2
  simp at hc2
theorem turn_enumT {P : Program} {w : World} {K : PySem.W.Frag} {elts : List Expr} {kk : Nat} {tpos : Pos} (a e it : Addr) :
    Turn P w K (.Tuple elts kk tpos) (Itn K a) [e, it] e (fun i h => (∃ old, IsEnum h e it ((i : Nat) : Int) old) ∧ h.IsTupleIter it a i ∧ e ≠ it) where
  mem := by simp
  obj := fun i h st b hb => by
    obtain ⟨⟨old, he⟩, ⟨o, ho, hc, hd⟩, _⟩ := st
    have e' : b = e ∨ b = it := by simpa using hb
    rcases e' with z | z
    · rw [z]; exact ⟨_, he, fun v q => nomatch q⟩
    · rw [z]; exact ⟨o, ho, fun v q => by rw [hd] at q; cases q⟩
  keep := fun i h h' st k => let ⟨⟨old, he⟩, hi, hne⟩ := st; ⟨⟨old, k e (by simp) _ he⟩, hi.at fun o q => k it (by simp) o q, hne⟩
  item := by
    intro X hP hw hK hc i pins s σ H E I hf st hg
    subst hP hw hK
    obtain ⟨⟨old, he⟩, hit, hne⟩ := st
    obtain ⟨xs, x, hq, hx⟩ := hg
    obtain ⟨its, rv, p, hz⟩ := I.tuple hq
    have p : s.heap.IsTuple a its.toArray := p
    have hai := apart_tup p hit
    obtain ⟨u, hu, ru⟩ := rv.get hx
    have hel : e < s.heap.objs.size := Heap.lt_size he
    have hil : it < s.heap.objs.size := by obtain ⟨_, q, _⟩ := hit; exact Heap.lt_size q
    have hea : e ≠ a := fun z => by
      obtain ⟨o2, ho2, hc2, _⟩ := p
      have he' : s.heap.get? e = some _ := he
      rw [z, ho2] at he'
      cases he'
      simp at hc2
    refine wpAny_pyNext_enum_itemD (Draws.tuple (A := X.A.in1) (I.ok.hd hc) it a hai its.toArray) he ⟨hit, p⟩ (by
      obtain ⟨hl, _⟩ := List.getElem?_eq_some_iff.mp hu
      simpa using hl) hne (by simp [hne, hea]) fun x' h' tk hx' ho st' hT hsz hk => ?_
    have hxe : x' = u := by
      have e1 : its[i]? = some x' := by simpa using hx'
      rw [hu] at e1
      exact (Option.some.inj e1).symm
    subst hxe
    refine ⟨_, rfl, wpAny_letOwnedTupleGo_enum (s := { s with heap := h', toks := tk + 1 }) ho fun h'' he' sb => ?_⟩
    have hT2 : h''.get? s.heap.objs.size = some { cls := .type "tuple", data := .seq #[.int i tk, x'] } := (sb.2 _ (Nat.ne_of_gt hel)).trans hT
    have new : ObjOk X.prog X.w (upd H s.heap.objs.size (.tup [.int (i : Nat), x])) h'' s.heap.objs.size (.tup [.int (i : Nat), x]) :=
      ⟨by show 2 ≤ sizeLine; decide, [.int i tk, x'], .cons ⟨_, rfl⟩ (.cons ru .nil), ⟨_, hT2, rfl, _, rfl⟩⟩
    have I1 : Inv X pins σ (upd H s.heap.objs.size (.tup [.int (i : Nat), x])) { s with heap := h'', toks := tk + 1 } :=
      I.turnedNew (ch := [e, it]) (fun b ob hb q => (sb.2 b (fun z => hb (by simp [z]))).trans (hk b ob (fun z => hb (by simp [z])) (fun z => hb (by simp [z])) q)) hf (Nat.le_refl _) new
    refine ⟨.ref s.heap.objs.size, _, I1, rfl, ⟨_, x, rfl, I.hok.fresh (Nat.le_refl _), rfl, fun ys hy => by rw [I.tuple_inj hy hq]; exact hx⟩, ⟨⟨x', ?_⟩, st'.1.at fun o q => (sb.2 it (Ne.symm hne)).trans q, hne⟩, fun b hb => ?_⟩
    · have e1 : ((i + 1 : Nat) : Int) = (i : Int) + 1 := by omega
      rw [e1]; exact he'
    · have hb' : b < s.heap.objs.size := by
        have e' : b = e ∨ b = it := by simpa using hb
        rcases e' with z | z
        · rw [z]; exact hel
        · rw [z]; exact hil
      rw [upd_ne (Nat.ne_of_lt hb')]
      exact (hf b hb).1
  done := by
    intro X hP hw hK hc i pins s σ H E I hf st hg
    subst hP hw hK
    obtain ⟨⟨old, he⟩, hit, hne⟩ := st
    obtain ⟨xs, hq, hx⟩ := hg
    obtain ⟨its, rv, p, hz⟩ := I.tuple hq
    have p : s.heap.IsTuple a its.toArray := p
    obtain ⟨f0, f1, f2, f3, f4, f5⟩ := hf it (by simp)
    have hl := rv.length
    have hT : s.TypeIs (.ref e) "enumerate" := ⟨_, he, rfl⟩
    unfold pyNext
    refine wpAny_bind (wpAny_attempt (wpAny_callSpecial?_slot (name := Str.ofString "__next__") hT F.slot_enumerate_next
      (wpAny_call_entry F.slot_enumerate_next hT F.entry_enumerate_next ?_ (F.args_enumerate_next_1 _))))
    show wpAny _ _ (field (.ref e) 2 >>= _) _ _ _
    refine wpAny_bind (wpAny_field he rfl (x := .ref it) rfl ?_)
    refine wpAny_bind (wpAny_nextOf_tuple_end (I.ok.hd hc) hit p (by simp; omega) fun h' x he' hx' => ?_)
    obtain ⟨o, ho, hc⟩ := hx'
    refine wpAny_bind (wpAny_isInstance (T := "StopIteration") (b := true) ⟨o, ho, hc⟩ isSubtype_stop ?_)
    exact wpAny_pure ⟨rfl, I.turned (t' := s.toks) (fun b o hb q => he' b o hb q) f0 f1 f3 f4 f5⟩
  self := fun A i s Q E st h => let ⟨⟨_, he⟩, _⟩ := st; wpAny_pyIter_enum he h
def iEnumT (K : PySem.W.Frag) (ta : TA) : TI := fun σ H R => ta σ H fun vs H1 => ∃ a xs, vs = [.ref a] ∧ SqT K H1 a xs ∧ R (Itn K a) H1
theorem pi_enumT {X : Cx} {e : Expr} {ta : TA} {p pos tpos : Pos} {elts : List Expr} {kk : Nat} (hg : Gl X "enumerate") (hm : X.mg "enumerate" = none) (ha : PA X [e] ta) (hs : starEach [e] X.env = [(false, eval e X.env)] := by rfl) :
    PI X (.Tuple elts kk tpos) (.Call (.Name "enumerate" p) [e] [] pos) (iEnumT X.K ta) := by
  refine ⟨fun pins s σ H R I h => ?_⟩
  refine Call_ (ld_blt I hg hm boot_enumerate (PyProof.Rows.callWith_type1 (thn (ha.run pos pins s σ H _ I h) fun us s1 ⟨vs, H1, I1, r1, q1⟩ => ?_) hs rfl))
  obtain ⟨a, xs, ex, hq, q⟩ := q1
  subst ex
  cases r1 with
  | cons r rr =>
    cases rr
    cases r
    obtain ⟨its, rv, p', hz⟩ := I1.tuple hq
    have p' : s1.heap.IsTuple a its.toArray := p'
    refine enum_begins1 (begins_tuple a its.toArray) p' fun h' he hit hsz hk => wpAny_pyIter_enum he ?_
    have I2 : Inv X pins σ H1 { s1 with heap := h' } := I1.kept (t' := s1.toks) hk
    refine ⟨s1.heap.objs.size + 1, [s1.heap.objs.size + 1, s1.heap.objs.size], _, _, H1, rfl, I2, turn_enumT a (s1.heap.objs.size + 1) s1.heap.objs.size, ⟨⟨.none, he⟩, ⟨_, hit, rfl, rfl⟩, Nat.succ_ne_self _⟩, fun b hb => ?_, q⟩
    have e' : b = s1.heap.objs.size + 1 ∨ b = s1.heap.objs.size := by simpa using hb
    have hle : s1.heap.objs.size ≤ b := by
      rcases e' with z | z
      · rw [z]; exact Nat.le_add_right _ _
      · rw [z]; exact Nat.le_refl _
    exact I1.fpOk hle (I1.hok.fresh hle)
theorem walk_enumT {K : PySem.W.Frag} {a : Addr} {xs : List V} : Walk (Itn K a) xs.length (fun H => SqT K H a xs) (YPair (fun i => some (.int (i : Nat))) (fun i => xs[i]?)) := by
  refine ⟨fun i _ hi q => ⟨xs, xs[i], q, by simp [hi]⟩, fun _ q => ⟨xs, q, Nat.le_refl _⟩, fun i H v H' _ q y => ?_⟩
  obtain ⟨T, x, h1, h2, h3, h4⟩ := y
  exact ⟨T, .int (i : Nat), x, h1, h2, h3, rfl, h4 xs q⟩
end KX

namespace KX
open PySem PySem.Spec PyProof.Rows L2
/-! readings, one step at a time -/
/-- a new object: any address that was free, the heap behind it -/
def NewO (H : Hp) (o : HO) (Q : VK) : Prop := ∀ p H', H p = none → Same H H' → H' p = some o → Q (.ref p) H'
theorem new_of {H : Hp} {o : HO} {Q : VK} (h : NewO H o Q) : ∀ p, H p = none → Q (.ref p) (upd H p o) := fun p hp => h p _ hp (Same.fresh hp) upd_same
section
variable {σ : L2.St} {H : Hp} {D : Ends} {Q : VK} {QT : Bool → Hp → Prop} {QA : List V → Hp → Prop} {QS : L2.St → Hp → Prop}
theorem rd_seq {t u : TS} (h : t { D with nx := u D } σ H) : tSeq t u D σ H := h
theorem rd_nx {a b c d} (h : a σ H) : ({ nx := a, rt := b, bk := c, ct := d } : Ends).nx σ H := h
theorem rd_rt {a b c d} {v : V} (h : b v H) : ({ nx := a, rt := b, bk := c, ct := d } : Ends).rt v H := h
theorem rd_ct {a b c d} (h : d σ H) : ({ nx := a, rt := b, bk := c, ct := d } : Ends).ct σ H := h
theorem rd_bk {a b c d} (h : c σ H) : ({ nx := a, rt := b, bk := c, ct := d } : Ends).bk σ H := h
theorem rd_next (h : D.nx σ H) : tNext D σ H := h
theorem rd_cont (h : D.ct σ H) : tCont D σ H := h
theorem rd_brk (h : D.bk σ H) : tBreak D σ H := h
theorem rd_drop {te : TE} (h : te σ H fun _ H1 => D.nx σ H1) : tDrop te D σ H := h
theorem rd_ret {te : TE} (h : te σ H D.rt) : tRet te D σ H := h
theorem rd_retN (h : D.rt .non H) : tRetN D σ H := h
theorem rd_ifs {c : TT} {t u : TS} (h : c σ H fun b H1 => if b = true then t D σ H1 else u D σ H1) : tIfS c t u D σ H := h
theorem rd_asg {te : TE} {g : TG} (h : te σ H fun x H1 => g x σ H1 D.nx) : tAsg te g D σ H := h
theorem rd_par {i j : Nat} {ta : TA} (h : ta σ H fun vs H1 => ∃ v w, vs = [v, w] ∧ D.nx ((σ.set i (some v)).set j (some w)) H1) : tPar i j ta D σ H := h
theorem rd_par2 {f : V → V → Prop} {v w : V} (h : f v w) : ∃ x y, [v, w] = [x, y] ∧ f x y := ⟨v, w, rfl, h⟩
theorem rd_par3 {i j l : Nat} {ta : TA} (h : ta σ H fun vs H1 => ∃ u v w, vs = [u, v, w] ∧ D.nx (((σ.set i (some u)).set j (some v)).set l (some w)) H1) : tPar3 i j l ta D σ H := h
theorem rd_par33 {f : V → V → V → Prop} {u v w : V} (h : f u v w) : ∃ z x y, [u, v, w] = [z, x, y] ∧ f z x y := ⟨u, v, w, rfl, h⟩
theorem rd_name {i : Nat} {v : V} (h : QS (σ.set i (some v)) H) : gName i v σ H QS := h
theorem rd_sub {to ti : TE} {t : TSet} {v : V} (h : to σ H fun o H1 => ti σ H1 fun i H2 => t o i v H2 fun H3 => QS σ H3) : gSub to ti t v σ H QS := h
theorem rd_gcons {t : TG} {u : TGs} {v : V} {vs : List V} (h : t v σ H fun σ' H' => u vs σ' H' QS) : gCons t u (v :: vs) σ H QS := ⟨v, vs, rfl, h⟩
theorem rd_gnil (h : QS σ H) : gNil [] σ H QS := ⟨rfl, h⟩
theorem rd_gtup {K : PySem.W.Frag} {n : Nat} {t : TGs} {a : Addr} {xs : List V} (ha : Tup H a xs) (hn : xs.length = n) (h : t xs σ H QS) : gTup K n t (.ref a) σ H QS := ⟨a, xs, rfl, ha.sq, hn, h⟩
theorem rd_glst {K : PySem.W.Frag} {n : Nat} {t : TGs} {a : Addr} {xs : List V} (ha : H a = some (.lst xs)) (hn : xs.length = n) (h : t xs σ H QS) : gLst K n t (.ref a) σ H QS := ⟨a, xs, rfl, SqL.of ha, hn, h⟩
theorem rd_var {i : Nat} {v : V} (e : σ[i]? = some (some v)) (h : Q v H) : tVar i σ H Q := ⟨v, e, h⟩
theorem rd_c {v : V} (h : Q v H) : tC v σ H Q := h
theorem rd_op {r : R2} {ta tb : TE} (h : ta σ H fun x H1 => tb σ H1 fun y H2 => r x y H2 Q) : tOp r ta tb σ H Q := h
theorem rd_un {r : V → Hp → VK → Prop} {ta : TE} (h : ta σ H fun x H1 => r x H1 Q) : tUn r ta σ H Q := h
theorem rd_tB {t : TE} (h : t σ H fun x H1 => ∃ c, x = .bl c ∧ QT c H1) : tB t σ H QT := h
theorem rd_test {t : TE} (h : t σ H fun x H1 => ∃ c, x = .bl c ∧ QT c H1) : tTest t σ H QT := h
theorem rd_bl {f : Bool → Prop} {b : Bool} (h : f b) : ∃ c, V.bl b = .bl c ∧ f c := ⟨b, rfl, h⟩
theorem rd_and {t u : TT} (h : t σ H fun c H1 => if c = true then u σ H1 QT else QT false H1) : tAnd t u σ H QT := h
theorem rd_or {t u : TT} (h : t σ H fun c H1 => if c = true then QT true H1 else u σ H1 QT) : tOr t u σ H QT := h
theorem rd_not {t : TT} (h : t σ H fun c H1 => QT (!c) H1) : tNot t σ H QT := h
theorem rd_yes (h : QT true H) : tYes σ H QT := h
theorem rd_andV {ta tb : TE} (h : ta σ H fun x H1 => ∃ c, x = .bl c ∧ if c = true then tb σ H1 Q else Q (.bl false) H1) : tAndV ta tb σ H Q := h
theorem rd_orV {ta tb : TE} (h : ta σ H fun x H1 => ∃ c, x = .bl c ∧ if c = true then Q (.bl true) H1 else tb σ H1 Q) : tOrV ta tb σ H Q := h
theorem rd_notV {ta : TE} (h : ta σ H fun x H1 => ∃ c, x = .bl c ∧ Q (.bl (!c)) H1) : tNotV ta σ H Q := h
theorem rd_if {t : TT} {ta tb : TE} (h : t σ H fun c H1 => if c = true then ta σ H1 Q else tb σ H1 Q) : tIf t ta tb σ H Q := h
theorem rd_isN {ta : TE} (h : ta σ H fun x H1 => Q (.bl (decide (x = .non))) H1) : tIsN ta σ H Q := h
theorem rd_iT {A B : Prop} (h : A) : if true = true then A else B := by rw [if_pos rfl]; exact h
theorem rd_iF {A B : Prop} (h : B) : if false = true then A else B := by rw [if_neg (by decide)]; exact h
theorem rd_nil (h : QA [] H) : tNil σ H QA := h
theorem rd_cons {ta : TE} {tr : TA} (h : ta σ H fun x H1 => tr σ H1 fun xs H2 => QA (x :: xs) H2) : tCons ta tr σ H QA := h
/-- behind a display's items -/
def TupTail (Q : VK) (xs : List V) (H1 : Hp) : Prop := xs.length ≤ sizeLine ∧ ∀ p, H1 p = none → Q (.ref p) (upd H1 p (.tup xs))
def LstTail (Q : VK) (xs : List V) (H1 : Hp) : Prop := xs.length ≤ sizeLine ∧ ∀ p, H1 p = none → Q (.ref p) (upd H1 p (.lst xs))
theorem rd_tup {t : TA} (h : t σ H (TupTail Q)) : tTup t σ H Q := h
theorem rd_lst {t : TA} (h : t σ H (LstTail Q)) : tLst t σ H Q := h
theorem rd_tupT {xs : List V} (hl : xs.length ≤ 1000 := by decide) (h : NewO H (.tup xs) Q) : TupTail Q xs H := ⟨Nat.le_trans hl (by decide), new_of h⟩
theorem rd_lstT {xs : List V} (hl : xs.length ≤ 1000 := by decide) (h : NewO H (.lst xs) Q) : LstTail Q xs H := ⟨Nat.le_trans hl (by decide), new_of h⟩
theorem rd_call {sp : Sp} {dvs : List V} {E : XK} {t : TA} (h : t σ H fun vs H1 => sp (vs ++ dvs) H1 Q E) : tCall sp dvs E t σ H Q := h
theorem rd_cb {r : List V → Hp → VK → Prop} {t : TA} (h : t σ H fun vs H1 => r vs H1 Q) : tCB r t σ H Q := h
theorem rd_bm {K : PySem.W.Frag} {T : String} {r : V → List V → Hp → VK → Prop} {to : TE} {t : TA} (h : to σ H fun x H1 => tyV K T x H1 ∧ t σ H1 fun xs H2 => r x xs H2 Q) : tBM K T r to t σ H Q := h
theorem rd_bm0 {K : PySem.W.Frag} {T : String} {r : V → List V → Hp → VK → Prop} {to : TE} (h : to σ H fun x H1 => tyV K T x H1 ∧ r x [] H1 Q) : tBM0 K T r to σ H Q := h
theorem rd_sl {r : V → Option Int → Option Int → Hp → VK → Prop} {te : TE} {tl th : TO} (h : te σ H fun x H1 => tl σ H1 fun l H2 => th σ H2 fun u H3 => r x l u H3 Q) : tSl r te tl th σ H Q := h
theorem rd_noP {Q : Option Int → Hp → Prop} (h : Q none H) : tNoPart σ H Q := h
theorem rd_part {t : TE} {Q : Option Int → Hp → Prop} (h : t σ H fun x H1 => ∃ i, x = .int i ∧ Q (some i) H1) : tPart t σ H Q := h
theorem rd_int {f : Int → Prop} {i : Int} (h : f i) : ∃ j, V.int i = .int j ∧ f j := ⟨i, rfl, h⟩
theorem rd_int1 {f : Int → Prop} {i : Int} (h : f i) : ∃ j, [V.int i] = [.int j] ∧ f j := ⟨i, rfl, h⟩
theorem rd_fld {K : PySem.W.Frag} {ta : TE} {f : Str} (h : ta σ H fun x H1 => ∃ a C dx fs v, x = .ref a ∧ H1 a = some (.ins C dx fs) ∧ Cls K C ∧ NoAttr K C f ∧ fs.lookup f = some v ∧ Q v H1) : tFld K ta f σ H Q := h
theorem rd_ilist {K : PySem.W.Frag} {tl : TE} {R : It → Hp → Prop} (h : tl σ H fun x H1 => ∃ a, x = .ref a ∧ (∃ xs, SqL K H1 a xs) ∧ R (Itl K a) H1) : iList K tl σ H R := h
theorem rd_itup {K : PySem.W.Frag} {tl : TE} {R : It → Hp → Prop} (h : tl σ H fun x H1 => ∃ a, x = .ref a ∧ (∃ xs, SqT K H1 a xs) ∧ R (Itt K a) H1) : iTup K tl σ H R := h
theorem rd_rng1 {ta : TA} {R : It → Hp → Prop} (h : ta σ H fun vs H1 => ∃ j : Int, vs = [.int j] ∧ -(2 ^ 62) ≤ j ∧ j < 2 ^ 62 ∧ R (Itr 0 j.toNat) H1) : iRng1 ta σ H R := h
theorem rd_enum {K : PySem.W.Frag} {ta : TA} {R : It → Hp → Prop} (h : ta σ H fun vs H1 => ∃ a xs, vs = [.ref a] ∧ SqL K H1 a xs ∧ R (Ite K a) H1) : iEnum K ta σ H R := h
theorem rd_enumT {K : PySem.W.Frag} {ta : TA} {R : It → Hp → Prop} (h : ta σ H fun vs H1 => ∃ a xs, vs = [.ref a] ∧ SqT K H1 a xs ∧ R (Itn K a) H1) : iEnumT K ta σ H R := h
theorem rd_rng1v {j : Int} {n : Nat} {R : It → Prop} (hj : j = n) (hn : n < 1000000) (h : R (Itr 0 n)) : ∃ k : Int, [V.int j] = [.int k] ∧ -(2 ^ 62) ≤ k ∧ k < 2 ^ 62 ∧ R (Itr 0 k.toNat) := by
  subst hj
  exact ⟨_, rfl, by omega, by omega, h⟩
/-! operators by values -/
theorem rd_rI0 {g : Int → Int → V} {i j : Int} (h : Q (g i j) H) : rI0 g (.int i) (.int j) H Q := ⟨i, j, rfl, rfl, h⟩
theorem rd_rI {C : Int → Int → Prop} {g : Int → Int → V} {i j : Int} (hc : C i j) (h : Q (g i j) H) : rI C g (.int i) (.int j) H Q := ⟨i, j, rfl, rfl, hc, h⟩
theorem rd_rU {g : Int → V} {i : Int} (h : Q (g i) H) : rU g (.int i) H Q := ⟨i, rfl, h⟩
theorem rd_eqI {i j : Int} (h : Q (.bl (decide (i = j))) H) : rEq (.int i) (.int j) H Q := by
  refine ⟨rfl, ?_⟩
  have e : decide (V.int i = V.int j) = decide (i = j) := by by_cases z : i = j <;> simp [z]
  rw [e]; exact h
theorem rd_neI {i j : Int} (h : Q (.bl (!decide (i = j))) H) : rNe (.int i) (.int j) H Q := by
  refine ⟨rfl, ?_⟩
  have e : decide (V.int i = V.int j) = decide (i = j) := by by_cases z : i = j <;> simp [z]
  rw [e]; exact h
theorem rd_ixL {K : PySem.W.Frag} {p : Addr} {xs : List V} {i : Int} {v : V} (ha : H p = some (.lst xs)) (e : atI xs i = some v) (h : Q v H) : rIxL K (.ref p) (.int i) H Q := ⟨p, xs, i, v, rfl, rfl, SqL.of ha, e, h⟩
theorem rd_ixT {K : PySem.W.Frag} {p : Addr} {xs : List V} {i : Int} {v : V} (ha : Tup H p xs) (e : atI xs i = some v) (h : Q v H) : rIxT K (.ref p) (.int i) H Q := ⟨p, xs, i, v, rfl, rfl, ha.sq, e, h⟩
theorem rd_cat {a b : Addr} {xs ys : List V} (ha : H a = some (.lst xs)) (hb : H b = some (.lst ys)) (hl : xs.length + ys.length ≤ 1000000) (h : NewO H (.lst (xs ++ ys)) Q) : rCat (.ref a) (.ref b) H Q :=
  ⟨a, b, xs, ys, rfl, rfl, ha, hb, Nat.le_trans hl (by decide), new_of h⟩
theorem rd_slL {K : PySem.W.Frag} {a : Addr} {xs : List V} {lo hi : Option Int} (ha : H a = some (.lst xs)) (h : NewO H (.lst (cutV xs lo hi)) Q) : rSlL K (.ref a) lo hi H Q := ⟨a, xs, rfl, SqL.of ha, new_of h⟩
theorem rd_app {l : Addr} {xs : List V} {y : V} (ha : H l = some (.lst xs)) (hl : xs.length < 1000000) (h : Q .non (upd H l (.lst (xs ++ [y])))) : rAppend (.ref l) [y] H Q :=
  ⟨l, xs, y, rfl, rfl, ha, Nat.lt_of_lt_of_le hl (by decide), h⟩
theorem rd_lenL {X : Cx} {p : Addr} {ys : List V} (ha : H p = some (.lst ys)) (h : Q (.int ys.length) H) : ∃ p' ys', [V.ref p] = [.ref p'] ∧ (SqL X.K H p' ys' ∨ SqT X.K H p' ys') ∧ Q (.int ys'.length) H := ⟨p, ys, rfl, .inl (SqL.of ha), h⟩
theorem rd_then {ta : TE} {k : V → Hp → VK → Prop} (h : ta σ H fun x H1 => k x H1 Q) : tThen ta k σ H Q := h
theorem rd_raise {C : Addr} {W : WX} {ta : TA} (h : ta σ H fun vs H1 => ∃ v, vs = [v] ∧ ∀ d, H1 d = none → W (.ref C) (some d) σ (upd H1 d (.xd [(("at" : Str), v)]))) : tRaiseErr C W ta D σ H := h
theorem rd_one {f : V → Prop} {v : V} (h : f v) : ∃ w, [v] = [w] ∧ f w := ⟨v, rfl, h⟩
theorem rd_sfld {K : PySem.W.Frag} {ta tv : TE} {f : Str} (h : tv σ H fun y H1 => ta σ H1 fun x H2 => ∃ a C dx fs, x = .ref a ∧ H2 a = some (.ins C dx fs) ∧ Cls K C ∧ NoAttr K C f ∧ fs.length < 1000 ∧ D.nx σ (upd H2 a (.ins C dx (putF f y fs)))) : sFld K ta tv f D σ H := h
end
end KX

namespace KX
open PySem PySem.Spec PyProof.Rows L2 L2H LamX
/-! the law's own call under CG, with some tables of code objects -/
section
variable {P : Program} {w : World} {K : PySem.W.Frag} {mg mb : Str → Option Value} {CX : CXT} {k : Nat} {fa a : Addr} {ts : List (Addr × Addr)}
  {fd : FuncData} {x : Str} {sp : Sp} {s₁ : Shared} {vs : List Value}
/-- only the script and the tables are tracked -/
structure OnlyS (H : Hp) (a : Addr) (ts : List (Addr × Addr)) : Prop where
  tab : ∀ p ∈ ts, H p.2 = some (.tbl #[])
  who : ∀ b, H b ≠ none → b = a ∨ ∃ p ∈ ts, b = p.2
  frz : ∀ u, H a = some u → ∃ o xs, u = .frz o (.lst xs)
theorem OnlyS.off {H : Hp} {b : Addr} (O : OnlyS H a ts) (h1 : b ≠ a) (h2 : ∀ p ∈ ts, b ≠ p.2) : H b = none :=
  Classical.byContradiction fun z => (O.who b z).elim h1 fun ⟨p, hp, e⟩ => h2 p hp e
theorem lawS_core {H : Hp}
    (KI : K.In s₁.heap) (hns : s₁.heap.Ns mainGlobals mg) (hb : s₁.heap.Ns builtinsNs mb)
    (hbb : ∀ x : Str, x ≠ "__name__" → mb x = bootBuiltins x) (hlim : s₁.heap.NoLimit) (hg : s₁.gens = #[])
    (ht : ∀ p ∈ ts, s₁.heap.get? p.2 = some { cls := .none, data := .fields #[] }) (nt : ∀ p ∈ ts, K.lookup p.2 = none) (C : ∀ p ∈ ts, PySem.W.CodeHd s₁.heap p.1 p.2)
    (hbm : ∃ (bm : Addr) (ob : Obj), mg "__builtins__" = some (.ref bm) ∧ bm ≠ builtinsNs ∧ s₁.heap.get? bm = some ob ∧ ob.cls = .type "module" ∧ ob.dict = some builtinsNs ∧ ob.data = .plain)
    (ha : s₁.heap.get? a = some { cls := .type "list", data := .seq vs.toArray }) (hr : Room k callerA)
    (F : ∀ base : Heap, K.In base → base.Ns mainGlobals mg → (∀ p ∈ ts, TabB base mg p.1 p.2) → FnR P w K mg base CX (CG k) fa fd [x] sp)
    (hbind : ∀ (s : Shared) (u : Value), BindsTo s fd ⟨[u], []⟩ [(x, u)])
    (hCX : ∀ H e s', CX [] H s₁ (fun _ _ _ => False) e s' → False)
    (O : OnlyS H a ts) (hS : sp [.ref a] H (fun v _ => v = .bl true) fun _ _ _ => False) (hok : HOk P w H s₁.heap)
    (hK : H a ≠ none → K.lookup a = none) :
    codeAny (model P w) callerA (.call (.ref fa) ⟨[.ref a], []⟩)
      (fun r s' => r = .ok (.ret (.bool true)) ∧ OldK s₁.heap s'.heap ∧ s'.os = s₁.os ∧ AllBare s'.gens) s₁ := by
  have sees : ∀ {b : Addr} {o : Obj}, s₁.heap.get? b = some o → (∀ vs n, o.data ≠ .seq vs n) → o.data ≠ .fields #[] →
      (hidT s₁.heap H).get? b = some o := fun {b o} e h1 h2 => hidT_get e (O.off (fun z => by
        subst z
        rw [ha] at e
        cases e
        exact h1 _ _ rfl) fun p hp z => by
        subst z
        rw [ht p hp] at e
        cases e
        exact h2 rfl)
  have nsH : ∀ {b : Addr} {m : Str → Option Value}, s₁.heap.Ns b m → (hidT s₁.heap H).Ns b m := fun {b m} n => by
    obtain ⟨o, es, ep, e, d, r⟩ := n
    exact ⟨o, es, ep, sees e (fun vs n z => by rw [d] at z; cases z) (fun z => by rw [d] at z; cases z), d, r⟩
  have KB : K.In (hidT s₁.heap H) := fun b o e => hidT_get (KI b o e) (Classical.byContradiction fun z => by
    rcases O.who b z with h | ⟨p, hp, h⟩
    · subst h
      rw [hK z] at e
      cases e
    · subst h
      rw [nt p hp] at e
      cases e)
  have MB : Mod K mg (hidT s₁.heap H) := by
    obtain ⟨mc, h1, h2⟩ := hlim
    exact ⟨KB, nsH hns, ⟨mb, nsH hb, hbb⟩, ⟨mc, nsH h1, h2⟩⟩
  have TB : ∀ p ∈ ts, TabB (hidT s₁.heap H) mg p.1 p.2 := fun p hp => by
    refine ⟨?_, ?_, fun z => ?_⟩
    · obtain ⟨o, us, file, tf, flags, tg, inF, text, tt, e1, r1, r2, r3, rest⟩ := C p hp
      refine ⟨o, us, file, tf, flags, tg, inF, text, tt, sees e1 (fun vs n z => ?_) (fun z => ?_), r1, r2, r3, rest⟩
      · rw [r2] at z
        cases z
      · rw [r2] at z
        cases z
        simp at r3
    · obtain ⟨bm, ob, b1, b2, b3, b4, b5, b6⟩ := hbm
      refine ⟨bm, ob, b1, b2, fun q => ?_, fun q => ?_, sees b3 (fun vs n z => by rw [b6] at z; cases z) (fun z => by rw [b6] at z; cases z), b4, b5, b6⟩
      · obtain ⟨o, es, ep, e, hd, _⟩ := hns
        rw [q, e] at b3
        cases b3
        rw [hd] at b6
        cases b6
      · rw [q, ht p hp] at b3
        cases b3
        cases b6
    · obtain ⟨o, es, ep, e, hd, _⟩ := hns
      rw [z, ht p hp] at e
      cases e
      cases hd
  have e0 : Env0 P w K mg (hidT s₁.heap H) callerA [] s₁ H :=
    ⟨rfl, MB, fun b o e => of_hidT e, Nat.le_of_eq (hidT_size _ _), trivial,
      fun b hb => absurd (show b ∈ ([] : List Addr) from hb) (by simp), hok, .of_eq hg⟩
  refine codeAny_mono ((F _ KB (nsH hns) TB).does callerA [] s₁ H ⟨[.ref a], []⟩ [.ref a] [.ref a] _ _ ⟨hr, rfl⟩ e0
    (hbind s₁ (.ref a)) (.cons rfl .nil) hS) fun r s' h => ?_
  match r, h with
  | .error e, h => exact (hCX H e s' h).elim
  | .ok (.ret u), h =>
    obtain ⟨v, H', os, bare, un, hok', r', q⟩ := h
    have q' : v = .bl true := q
    subst q'
    obtain rfl : u = Value.bool true := r'
    have hm : ∀ p ∈ ts, ∃ more : Array Value, s'.heap.get? p.2 = some { cls := .none, data := .fields more } := fun p hp => by
      obtain ⟨more, z⟩ := un.tbls p.2 #[] (O.tab p hp)
      exact ⟨_, hok' p.2 _ z⟩
    have other : ∀ b o, (∀ p ∈ ts, b ≠ p.2) → s₁.heap.get? b = some o → s'.heap.get? b = some o := fun b o nb e => by
      cases q : H b with
      | none => exact un.keep b o e q (by intro z; exact absurd (show b ∈ ([] : List Addr) from z) (by simp)) (by simp)
      | some u =>
        have eb : b = a := (O.who b (by rw [q]; exact fun z => nomatch z)).resolve_right fun ⟨p, hp, z⟩ => nb p hp z
        subst eb
        obtain ⟨ob, xs, rfl⟩ := O.frz _ q
        have e1 := (hok b _ q).1
        have e2 := (hok' b _ (un.frzs b ob _ q)).1
        rw [e] at e1
        cases e1
        exact e2
    refine ⟨rfl, ⟨fun b o e => ?_, fun b o e => ?_⟩, os, bare⟩
    · by_cases h : ∃ p ∈ ts, b = p.2
      · obtain ⟨p, hp, rfl⟩ := h
        obtain ⟨more, hm⟩ := hm p hp
        rw [ht p hp] at e
        cases e
        exact .inr (.inl ⟨((C p hp).tab (ht p hp)).isCodeTable, rfl, #[], more, rfl, by rw [Array.empty_append]; exact hm⟩)
      · exact .inl (other b o (fun p hp z => h ⟨p, hp, z⟩) e)
    · by_cases h : ∃ p ∈ ts, b = p.2
      · obtain ⟨p, hp, rfl⟩ := h
        obtain ⟨more, hm⟩ := hm p hp
        exact ⟨_, hm⟩
      · exact ⟨o, other b o (fun p hp z => h ⟨p, hp, z⟩) e⟩
theorem law_callS {ns : List Int}
    (KI : K.In s₁.heap) (hns : s₁.heap.Ns mainGlobals mg) (hb : s₁.heap.Ns builtinsNs mb)
    (hbb : ∀ x : Str, x ≠ "__name__" → mb x = bootBuiltins x) (hlim : s₁.heap.NoLimit) (hg : s₁.gens = #[])
    (ht : ∀ p ∈ ts, s₁.heap.get? p.2 = some { cls := .none, data := .fields #[] }) (nt : ∀ p ∈ ts, K.lookup p.2 = none) (C : ∀ p ∈ ts, PySem.W.CodeHd s₁.heap p.1 p.2)
    (hbm : ∃ (bm : Addr) (ob : Obj), mg "__builtins__" = some (.ref bm) ∧ bm ≠ builtinsNs ∧ s₁.heap.get? bm = some ob ∧ ob.cls = .type "module" ∧ ob.dict = some builtinsNs ∧ ob.data = .plain)
    (ha : s₁.heap.get? a = some { cls := .type "list", data := .seq vs.toArray }) (hi : IntsAre vs ns) (hl : ns.length ≤ sizeLine) (hr : Room k callerA)
    (F : ∀ base : Heap, K.In base → base.Ns mainGlobals mg → (∀ p ∈ ts, TabB base mg p.1 p.2) → FnR P w K mg base CX (CG k) fa fd [x] sp)
    (hbind : ∀ (s : Shared) (u : Value), BindsTo s fd ⟨[u], []⟩ [(x, u)])
    (hsp : ∀ H : Hp, (∀ p ∈ ts, H p.2 = some (.tbl #[])) → SqL K H a (ns.map V.int) → sp [.ref a] H (fun v _ => v = .bl true) fun _ _ _ => False)
    (hCX : ∀ H e s', CX [] H s₁ (fun _ _ _ => False) e s' → False) :
    codeAny (model P w) callerA (.call (.ref fa) ⟨[.ref a], []⟩)
      (fun r s' => r = .ok (.ret (.bool true)) ∧ OldK s₁.heap s'.heap ∧ s'.os = s₁.os ∧ AllBare s'.gens) s₁ := by
  have rv := vals_ints hi
  have nat : ∀ p ∈ ts, a ≠ p.2 := fun p hp z => by
    rw [z, ht p hp] at ha
    cases ha
  cases hk : K.lookup a with
  | some o =>
    have e := KI a o hk
    rw [ha] at e
    cases e
    let H : Hp := fun b => if b ∈ ts.map (·.2) then some (.tbl #[]) else none
    have atT : ∀ p ∈ ts, H p.2 = some (.tbl #[]) := fun p hp => if_pos (List.mem_map.mpr ⟨p, hp, rfl⟩)
    have off : ∀ {b}, b ∉ ts.map (·.2) → H b = none := fun h => if_neg h
    have on : ∀ {b}, b ∈ ts.map (·.2) → ∃ p ∈ ts, b = p.2 := fun h => by
      obtain ⟨p, hp, e⟩ := List.mem_map.mp h
      exact ⟨p, hp, e.symm⟩
    have noff : a ∉ ts.map (·.2) := fun h => by
      obtain ⟨p, hp, e⟩ := on h
      exact nat p hp e
    have S : SqL K H a (ns.map V.int) :=
      Or.inr ⟨_, vs.toArray, _, hk, rfl, rfl, rfl, by rw [List.size_toArray, hi.length]; exact hl, by simpa using rv⟩
    have O : OnlyS H a ts := ⟨atT, fun b z => Or.inr (on (Classical.byContradiction fun h => z (off h))), fun u z => by rw [off noff] at z; cases z⟩
    refine lawS_core KI hns hb hbb hlim hg ht nt C hbm ha hr F hbind hCX O (hsp _ atT S) (fun b u z => ?_) fun z => absurd (off noff) z
    by_cases h : b ∈ ts.map (·.2)
    · obtain ⟨p, hp, rfl⟩ := on h
      rw [atT p hp] at z
      cases z
      exact ht p hp
    · rw [off h] at z
      cases z
  | none =>
    let H : Hp := fun b => if b = a then some (.frz { cls := .type "list", data := .seq vs.toArray } (.lst (ns.map V.int))) else if b ∈ ts.map (·.2) then some (.tbl #[]) else none
    have on : ∀ {b}, b ∈ ts.map (·.2) → ∃ p ∈ ts, b = p.2 := fun h => by
      obtain ⟨p, hp, e⟩ := List.mem_map.mp h
      exact ⟨p, hp, e.symm⟩
    have atA : H a = some (.frz { cls := .type "list", data := .seq vs.toArray } (.lst (ns.map V.int))) := if_pos rfl
    have atT : ∀ p ∈ ts, H p.2 = some (.tbl #[]) := fun p hp => (if_neg (Ne.symm (nat p hp))).trans (if_pos (List.mem_map.mpr ⟨p, hp, rfl⟩))
    have off : ∀ {b}, b ≠ a → b ∉ ts.map (·.2) → H b = none := fun h h' => (if_neg h).trans (if_neg h')
    have S : SqL K H a (ns.map V.int) := Or.inl (Or.inr ⟨_, atA⟩)
    have O : OnlyS H a ts := ⟨atT, fun b z => by
      by_cases h : b = a
      · exact Or.inl h
      · exact Or.inr (on (Classical.byContradiction fun h' => z (off h h'))), fun u z => by rw [atA] at z; cases z; exact ⟨_, _, rfl⟩⟩
    refine lawS_core KI hns hb hbb hlim hg ht nt C hbm ha hr F hbind hCX O (hsp _ atT S) (fun b u z => ?_) fun _ => hk
    by_cases h : b = a
    · subst h
      rw [atA] at z
      cases z
      exact ⟨ha, by rw [List.length_map]; exact hl, vs, _, rv, ha⟩
    · by_cases h' : b ∈ ts.map (·.2)
      · obtain ⟨p, hp, rfl⟩ := on h'
        rw [atT p hp] at z
        cases z
        exact ht p hp
      · rw [off h h'] at z
        cases z
end
/-- what k_head leaves, by the law's promise under CG; ts: the tables of the code objects -/
theorem walk_ofS {l : PySem.W.OpenLaw} {n k : Nat} {q : Program} {loose : List Str} {XP : (Str → Option Value) → Heap → Prop}
    {YP : World → Heap → Prop} {d : DefRec} {K : Params → PySem.W.Frag} {CX : CXT} {x : Str} {ts : List (Addr × Addr)} {sp : PySem.W.Frag → Sp}
    (hn : l.most = some n) (hn2 : n ≤ sizeLine) (hdf : d.params.defaults = []) (hr : Room k callerA)
    (hY : ∀ (w : World) (h : Heap), YP w h → (K w.params).In h)
    (hT : ∀ (w : World) (h : Heap), YP w h → ∀ p ∈ ts, h.get? p.2 = some { cls := .none, data := .fields #[] })
    (hcd : ∀ w : World, ∀ p ∈ ts, PySem.W.codeHdIn (K w.params) p.1 p.2 = true) (nt : ∀ w : World, ∀ p ∈ ts, (K w.params).lookup p.2 = none)
    (F : ∀ (w : World) (mg : Str → Option Value) (fa : Addr) (h : Heap), (K w.params).In h → h.Ns mainGlobals mg →
      mg d.name = some (.ref fa) → ∃ fd : FuncData, (∀ (s : Shared) (u : Value), BindsTo s fd ⟨[u], []⟩ [(x, u)]) ∧
        ∀ base : Heap, (K w.params).In base → base.Ns mainGlobals mg → (∀ p ∈ ts, TabB base mg p.1 p.2) →
          FnR l.prog w (K w.params) mg base CX (CG k) fa fd [x] (sp (K w.params)))
    (hsp : ∀ (K : PySem.W.Frag) (H : Hp) (a : Addr) (ns : List Int), ns.length ≤ n → (∀ p ∈ ts, H p.2 = some (.tbl #[])) → SqL K H a (ns.map V.int) →
      sp K [.ref a] H (fun v _ => v = .bl true) fun _ _ _ => False)
    (hCX : ∀ (H : Hp) (s : Shared) (e : Value) (s' : Shared), CX [] H s (fun _ _ _ => False) e s' → False) :
    PySem.W.WalkO q loose XP YP l.row.toRowW d [] (fun f vs => PySem.call f vs) := by
  refine Att.attach_call hn hdf fun w s₀ s₁ mg mb fa o pm cd doc a vs ns G Y ho hd hcd' hmg hobj hints hlen hg => ?_
  have KI := hY w _ Y
  obtain ⟨fd, hb, hF⟩ := F w mg fa _ KI G.T.g hmg
  exact law_callS KI G.T.g G.T.b G.T.builtins G.T.nolimit hg (hT w _ Y) (nt w) (fun p hp => PySem.W.codeHd_of_K KI (hcd w p hp)) G.T.bmain hobj hints (Nat.le_trans hlen hn2) hr hF hb
    (fun H hH hS => hsp (K w.params) H a ns hlen hH hS) fun H e s' => hCX H s₁ e s'
end KX

namespace KX
open PySem PySem.Spec PyProof.Rows L2
/-! the rules that name the written part, with the written part handed in -/
section
variable {X : Cx} {K : PySem.W.Frag}
theorem cr_sortedK (hK : X.K = K := by rfl) : CallR X (.builtin "sorted") (rSorted K) := by subst hK; exact cr_sorted
theorem cr_sortTK (hK : X.K = K := by rfl) : CallR X (.builtin "sorted") (rSortT K) := by subst hK; exact cr_sortT
theorem cr_sortedPOK (hK : X.K = K := by rfl) : CallR X (.builtin "sorted") (rSortedPO K) := by subst hK; exact cr_sortedPO
theorem cr_maxK (hc : X.calm = true) (hK : X.K = K := by rfl) : CallR X (.builtin "max") (rMax K) := by subst hK; exact cr_max hc
theorem cr_minK (hc : X.calm = true) (hK : X.K = K := by rfl) : CallR X (.builtin "min") (rMin K) := by subst hK; exact cr_min hc
theorem cr_sumK (hc : X.calm = true) (hK : X.K = K := by rfl) : CallR X (.builtin "sum") (rSum K) := by subst hK; exact cr_sum hc
theorem cr_allK (hc : X.calm = true) (hK : X.K = K := by rfl) : CallR X (.builtin "all") (rAll K) := by subst hK; exact cr_all hc
theorem cr_anyK (hc : X.calm = true) (hK : X.K = K := by rfl) : CallR X (.builtin "any") (rAny K) := by subst hK; exact cr_any hc
theorem cr_reprK (hg : X.A.guards = some []) (hu : X.A.units + 66 < cLine) (hK : X.K = K := by rfl) : CallR X (.builtin "repr") (rRepr K) := by subst hK; exact cr_repr hg hu
def rLenS (K : PySem.W.Frag) : List V → Hp → VK → Prop := fun xs H Q => ∃ p ys, xs = [.ref p] ∧ (SqL K H p ys ∨ SqT K H p ys) ∧ Q (.int ys.length) H
theorem cr_lenK (hK : X.K = K := by rfl) : CallR X (.builtin "len") (rLenS K) := by subst hK; exact call_len_seq
def rListS (K : PySem.W.Frag) : List V → Hp → VK → Prop := fun xs H Q => ∃ p ys, xs = [.ref p] ∧ (SqL K H p ys ∨ SqT K H p ys) ∧ ∀ l, H l = none → Q (.ref l) (upd H l (.lst ys))
theorem cr_listK (hK : X.K = K := by rfl) : CallR X (.type "list") (rListS K) := by subst hK; exact call_list_of
theorem cr_isiK (hK : X.K = K := by rfl) : CallR X (.builtin "isinstance") (rIsi K) := by subst hK; exact call_isi
theorem cr_isiTK (hK : X.K = K := by rfl) : CallR X (.builtin "isinstance") (rIsiT K) := by subst hK; exact call_isiT
theorem ix_listK (hK : X.K = K := by rfl) : IxR X (rIxL K) := by subst hK; exact ix_list
theorem ix_tupK (hK : X.K = K := by rfl) : IxR X (rIxT K) := by subst hK; exact ix_tup
theorem sl_listK (hK : X.K = K := by rfl) : SlR X (rSlL K) := by subst hK; exact sl_list
theorem op_inK (hK : X.K = K := by rfl) : OpR X (compareOp .In) (rIn K false) := by subst hK; exact op_in_seq
theorem op_notInK (hK : X.K = K := by rfl) : OpR X (compareOp .NotIn) (rIn K true) := by subst hK; exact op_notIn_seq
theorem op_eqDK (hu : X.A.units + 64 < cLine) (hK : X.K = K := by rfl) : OpR X (compareOp .Eq) (rEqD K) := by subst hK; exact op_eqD hu
theorem op_neDK (hu : X.A.units + 64 < cLine) (hK : X.K = K := by rfl) : OpR X (compareOp .NotEq) (rNeD K) := by subst hK; exact op_neD hu
theorem op_inDK (hu : X.A.units + 65 < cLine) (hK : X.K = K := by rfl) : OpR X (compareOp .In) (rInD K) := by subst hK; exact op_inD hu
theorem op_notInDK (hu : X.A.units + 65 < cLine) (hK : X.K = K := by rfl) : OpR X (compareOp .NotIn) (rNotInD K) := by subst hK; exact op_notInD hu
section
variable {tg l e a : Expr} {tl ta te to : TE} {pos p tpos cpos apos : Pos} {f : Str} {t : TA} {es : List Expr}
theorem pi_listK (hl : PE X l tl) (hK : X.K = K := by rfl) : PI X tg l (iList K tl) := by subst hK; exact pi_list hl
theorem pi_tupK (hl : PE X l tl) (hK : X.K = K := by rfl) : PI X tg l (iTup K tl) := by subst hK; exact pi_tup hl
theorem pi_enumK {elts : List Expr} {kk : Nat} (hg : Gl X "enumerate") (hm : X.mg "enumerate" = none) (ha : PA X [e] t) (hs : starEach [e] X.env = [(false, eval e X.env)] := by rfl) (hK : X.K = K := by rfl) :
    PI X (.Tuple elts kk tpos) (.Call (.Name "enumerate" p) [e] [] pos) (iEnum K t) := by subst hK; exact pi_enum hg hm ha hs
theorem pi_enumTK {elts : List Expr} {kk : Nat} (hg : Gl X "enumerate") (hm : X.mg "enumerate" = none) (ha : PA X [e] t) (hs : starEach [e] X.env = [(false, eval e X.env)] := by rfl) (hK : X.K = K := by rfl) :
    PI X (.Tuple elts kk tpos) (.Call (.Name "enumerate" p) [e] [] pos) (iEnumT K t) := by subst hK; exact pi_enumT hg hm ha hs
theorem pe_fldK (he : PE X e ta) (hb : attributeBase e f X.env (eval e X.env) = eval e X.env := by rfl) (hK : X.K = K := by rfl) : PE X (.Attribute e f pos) (tFld K ta f) := by subst hK; exact pe_fld he hb
theorem ps_fldK {o value : Expr} {pos' : Pos} {tv : TE} (ha : PE X o ta) (hv : PE X value tv) (hs : swapsWith value (some (.Attribute o f pos')) pos.line X.env = pure false := by rfl) (hK : X.K = K := by rfl) :
    PS X (.Assign [.Attribute o f pos'] value pos) (sFld K ta tv f) := by subst hK; exact ps_fld ha hv hs
theorem pe_tupleK (hg : Gl X "tuple") (hm : X.mg "tuple" = none) (ha : PE X a ta) (na : starEach [a] X.env = (false, eval a X.env) :: starEach [] X.env := by rfl) (hK : X.K = K := by rfl) :
    PE X (.Call (.Name "tuple" p) [a] [] pos) (tThen ta (kTup K)) := by subst hK; exact pe_tupleOf hg hm ha na
theorem pg_tupK {k n : Nat} {t : TGs} (hc : X.calm = true) (h : PGs X es t) (hn : (assignEach es X.env).length = n := by rfl) (hst : (assignEach es X.env).findIdx? (·.1) = none := by rfl) (hK : X.K = K := by rfl) :
    PG X (.Tuple es k pos) (gTup K n t) := by subst hK; exact pg_tup hc h hn hst
theorem pg_lstK {k n : Nat} {t : TGs} (hc : X.calm = true) (h : PGs X es t) (hn : (assignEach es X.env).length = n := by rfl) (hst : (assignEach es X.env).findIdx? (·.1) = none := by rfl) (hK : X.K = K := by rfl) :
    PG X (.Tuple es k pos) (gLst K n t) := by subst hK; exact pg_lst hc h hn hst
end
end
/-! their readings -/
section
variable {σ : L2.St} {H : Hp} {Q : VK} {K : PySem.W.Frag}
theorem rd_lenB {p : Addr} {ys : List V} (ha : SqL K H p ys ∨ SqT K H p ys) (h : Q (.int ys.length) H) : rLenS K [.ref p] H Q := ⟨p, ys, rfl, ha, h⟩
theorem rd_len {p : Addr} {ys : List V} (ha : H p = some (.lst ys)) (h : Q (.int ys.length) H) : rLenS K [.ref p] H Q := ⟨p, ys, rfl, .inl (SqL.of ha), h⟩
theorem rd_lenTup {p : Addr} {ys : List V} (ha : Tup H p ys) (h : Q (.int ys.length) H) : rLenS K [.ref p] H Q := ⟨p, ys, rfl, .inr ha.sq, h⟩
theorem rd_list {p : Addr} {ys : List V} (ha : SqL K H p ys ∨ SqT K H p ys) (h : NewO H (.lst ys) Q) : rListS K [.ref p] H Q := ⟨p, ys, rfl, ha, new_of h⟩
theorem rd_sorted {p : Addr} {ns : List Int} (ha : H p = some (.lst (ns.map V.int))) (hl : ns.length < 64) (h : ∀ ns' : List Int, ns'.Perm ns → ns'.Pairwise (· ≤ ·) → NewO H (.lst (ns'.map V.int)) Q) : rSorted K [.ref p] H Q :=
  ⟨p, ns, rfl, SqL.of ha, hl, fun ns' q hp hs hq => new_of (h ns' hp hs) q hq⟩
theorem rd_tupL {p : Addr} {xs : List V} (ha : H p = some (.lst xs)) (h : NewO H (.tup xs) Q) : kTup K (.ref p) H Q := .inl ⟨p, xs, rfl, SqL.of ha, new_of h⟩
theorem rd_tupS {p : Addr} {xs : List V} (ha : Tup H p xs) (h : Q (.ref p) H) : kTup K (.ref p) H Q := .inr ⟨p, xs, rfl, ha.sq, h⟩
theorem rd_max {p : Addr} {ns : List Int} (ha : H p = some (.lst (ns.map V.int))) (hn : 0 < ns.length) (h : ∀ m, m ∈ ns → (∀ y ∈ ns, y ≤ m) → Q (.int m) H) : rMax K [.ref p] H Q := ⟨p, ns, rfl, SqL.of ha, hn, h⟩
theorem rd_repr {x : V} {d : PyData} (hd : Dp K H x d) (h1 : d.showable = true) (h2 : d.hasDict = false) (h3 : d.depth ≤ 64) (h4 : d.shown.length ≤ sizeLine) (h : Q (.str d.shown) H) : rRepr K [x] H Q := ⟨x, d, rfl, hd, h1, h2, h3, h4, h⟩
theorem rd_eqS {a b : Str} (h : Q (.bl (decide (a = b))) H) : rEq (.str a) (.str b) H Q := by
  refine ⟨rfl, ?_⟩
  have e : decide (V.str a = V.str b) = decide (a = b) := by by_cases z : a = b <;> simp [z]
  rw [e]; exact h
theorem rd_neS {a b : Str} (h : Q (.bl (!decide (a = b))) H) : rNe (.str a) (.str b) H Q := by
  refine ⟨rfl, ?_⟩
  have e : decide (V.str a = V.str b) = decide (a = b) := by by_cases z : a = b <;> simp [z]
  rw [e]; exact h
theorem rd_ty {p : Addr} {xs : List V} {R : Prop} (ha : H p = some (.lst xs)) (h : R) : tyV K "list" (.ref p) H ∧ R := ⟨.inl ⟨rfl, _, SqL.of ha⟩, h⟩
end
section
variable {X : Cx} {K : PySem.W.Frag} {o e : Expr} {es : List Expr} {to : TE} {t : TA} {apos cpos : Pos} {name : Str} {id : String} {r : V → List V → Hp → VK → Prop}
theorem pe_bmK (slot : Slot "list" name id) (hty : typeOf (.builtin id) = pure (.type "method_descriptor")) (hm : MtR X id r) (ho : PE X o to) (ha : PA X (e :: es) t)
    (hbase : attributeBase o name X.env (eval o X.env) = eval o X.env := by rfl)
    (hfew : ((backTo cpos (starEach (e :: es) X.env)).all (fun x => !x.1) && (backToKw cpos (keywordEach [] X.env)).all (fun x => x.1.isSome)
      && decide ((e :: es).length + ([] : List Keyword).length + (if ([] : List Keyword).isEmpty then 0 else 1) < 30)) = true := by rfl)
    (hline : (apos.endLine == cpos.line) = true := by rfl) (hs : starEach (e :: es) X.env = (false, eval e X.env) :: starEach es X.env := by rfl) (hplain : (backTo cpos (starEach es X.env)).any (·.1) = false := by rfl) (hK : X.K = K := by rfl) :
    PE X (.Call (.Attribute o name apos) (e :: es) [] cpos) (tBM K "list" r to t) := by subst hK; exact pe_bm PySem.F.plainAttrs_list slot hty hm ho ha hbase hfew hline hs hplain
theorem pe_bm0K (slot : Slot "list" name id) (hty : typeOf (.builtin id) = pure (.type "method_descriptor")) (hm : MtR X id r) (ho : PE X o to)
    (hbase : attributeBase o name X.env (eval o X.env) = eval o X.env := by rfl) (hline : (apos.endLine == cpos.line) = true := by rfl) (hK : X.K = K := by rfl) : PE X (.Call (.Attribute o name apos) [] [] cpos) (tBM0 K "list" r to) := by
  subst hK; exact pe_bm0 PySem.F.plainAttrs_list slot hty hm ho hbase hline
end
/-- what isinstance asks of an own class -/
structure IsCls (K : PySem.W.Frag) (C : Addr) : Prop where
  cl : Cls K C
  ha : PySem.W.findIn K (.ref C) "__class__" = some (some (.builtin "object.__class__"))
  hn : PySem.W.specialIn K (.builtin "object.__class__") "__get__" = some (some (.builtin "getset_descriptor.__get__"))
  ht : PySem.W.takesIn K (.builtin "object.__class__") = some true
  hm : PySem.W.mroIn K C (.type "object") = some true
  kit : PySem.W.kitOne K (.ref C) (.ref C) = some true
theorem IsCls.ty {K : PySem.W.Frag} {C : Addr} (h : IsCls K C) {H : Hp} {a dx : Addr} {fs : List (Str × V)} (e : H a = some (.ins C dx fs)) : TyX K H (.ref a) (.ref C) :=
  .base (.ins e h.cl h.ha h.hn h.ht h.hm)
/-! data: ints and pairs of ints -/
theorem dA_ints (K : PySem.W.Frag) (H : Hp) : ∀ ns : List Int, DpAll K H (ns.map V.int) (ns.map PyData.int)
  | [] => .nil
  | n :: ns => .cons (.int n) (dA_ints K H ns)
theorem dA_lay : ∀ ns : List Int, PyData.canLayAll0 (ns.map PyData.int) = true
  | [] => rfl
  | n :: ns => by
    show (PyData.canLay0 (.int n) && PyData.canLayAll0 (ns.map PyData.int)) = true
    rw [dA_lay ns]; rfl
theorem dA_dep : ∀ ns : List Int, PyData.depthAll (ns.map PyData.int) ≤ 1
  | [] => by decide
  | n :: ns => by
    have h := dA_dep ns
    show max (PyData.depth (.int n)) (PyData.depthAll (ns.map PyData.int)) ≤ 1
    have h1 : PyData.depth (.int n) = 0 := rfl
    rw [h1]; omega
theorem dA_sh (ns : List Int) : SeqAt.shaped (.tuple (ns.map PyData.int)) = true := by
  have h := dA_dep ns
  have h1 : PyData.depth (.tuple (ns.map PyData.int)) = PyData.depthAll (ns.map PyData.int) + 1 := rfl
  unfold SeqAt.shaped
  have h2 : PyData.canLay0 (.tuple (ns.map PyData.int)) = PyData.canLayAll0 (ns.map PyData.int) := rfl
  rw [h2, dA_lay, h1, Bool.true_and]
  exact decide_eq_true (by omega)
theorem dA_eqv : ∀ ns ms : List Int, PyData.eqvAll (ns.map PyData.int) (ms.map PyData.int) = decide (ns = ms)
  | [], [] => rfl
  | [], m :: ms => by simp [PyData.eqvAll]
  | n :: ns, [] => by simp [PyData.eqvAll]
  | n :: ns, m :: ms => by
    show ((n == m) && PyData.eqvAll (ns.map PyData.int) (ms.map PyData.int)) = _
    rw [dA_eqv ns ms]
    by_cases h1 : n = m
    · by_cases h2 : ns = ms <;> simp [h1, h2]
    · simp [h1]
def dP (e : Int × Int) : PyData := .tuple [.int e.1, .int e.2]
theorem dP_lay : ∀ L : List (Int × Int), PyData.canLayAll0 (L.map dP) = true
  | [] => rfl
  | n :: ns => by
    show (PyData.canLay0 (dP n) && PyData.canLayAll0 (ns.map dP)) = true
    rw [dP_lay ns]; rfl
theorem dP_dep : ∀ L : List (Int × Int), PyData.depthAll (L.map dP) ≤ 2
  | [] => by decide
  | n :: ns => by
    have h := dP_dep ns
    show max (PyData.depth (dP n)) (PyData.depthAll (ns.map dP)) ≤ 2
    have h1 : PyData.depth (dP n) = 1 := rfl
    rw [h1]; omega
theorem dP_shT (L : List (Int × Int)) : SeqAt.shaped (.tuple (L.map dP)) = true := by
  have h := dP_dep L
  have h1 : PyData.depth (.tuple (L.map dP)) = PyData.depthAll (L.map dP) + 1 := rfl
  unfold SeqAt.shaped
  have h2 : PyData.canLay0 (.tuple (L.map dP)) = PyData.canLayAll0 (L.map dP) := rfl
  rw [h2, dP_lay, h1, Bool.true_and]
  exact decide_eq_true (by omega)
theorem dP_shL (L : List (Int × Int)) : SeqAt.shaped (.list (L.map dP)) = true := by
  have h := dP_dep L
  have h1 : PyData.depth (.list (L.map dP)) = PyData.depthAll (L.map dP) + 1 := rfl
  unfold SeqAt.shaped
  have h2 : PyData.canLay0 (.list (L.map dP)) = PyData.canLayAll0 (L.map dP) := rfl
  rw [h2, dP_lay, h1, Bool.true_and]
  exact decide_eq_true (by omega)
theorem dP_sh1 (e : Int × Int) : SeqAt.shaped (dP e) = true := rfl
theorem dP_eqv1 (e f : Int × Int) : PyData.eqv (dP e) (dP f) = decide (e = f) := by
  obtain ⟨a, b⟩ := e
  obtain ⟨c, d⟩ := f
  show ((a == c) && ((b == d) && true)) = _
  by_cases h1 : a = c
  · by_cases h2 : b = d <;> simp [h1, h2]
  · simp [h1]
theorem dP_eqv : ∀ L M : List (Int × Int), PyData.eqvAll (L.map dP) (M.map dP) = decide (L = M)
  | [], [] => rfl
  | [], m :: ms => by simp [PyData.eqvAll]
  | n :: ns, [] => by simp [PyData.eqvAll]
  | n :: ns, m :: ms => by
    show (PyData.eqv (dP n) (dP m) && PyData.eqvAll (ns.map dP) (ms.map dP)) = _
    rw [dP_eqv ns ms, dP_eqv1]
    by_cases h1 : n = m
    · by_cases h2 : ns = ms <;> simp [h1, h2]
    · simp [h1]
theorem dP_any (e : Int × Int) (L : List (Int × Int)) : ((L.map dP).any fun z => PyData.eqv z (dP e)) = decide (e ∈ L) := by
  induction L with
  | nil => rfl
  | cons x L ih =>
    rw [List.map_cons, List.any_cons, ih, dP_eqv1]
    by_cases h : x = e
    · simp [h]
    · have h' : ¬ e = x := fun z => h z.symm
      simp [h, h']
theorem Room.u65 {k : Nat} {A : Around} (r : Room k A) : A.units + 65 < cLine := by have := r.un; omega
theorem Room.u66 {k : Nat} {A : Around} (r : Room k A) : A.units + 66 < cLine := by have := r.un; omega
end KX

namespace KX
open PySem PySem.Spec PyProof.Rows L2
/-! comprehensions whose values are told ahead -/
theorem same_put {H H' : Hp} {D : Addr} {o : HO} (s : Same H H') (n : H D = none) : Same H (L2.upd H' D o) := fun c u h => by
  rw [upd_ne (fun z => by rw [z, n] at h; cases h)]
  exact s c u h
section
variable {K : PySem.W.Frag} {g : TG} {te : TE} {vs : List Nat} {σ : L2.St} {H1 : Hp} {D : Addr} {Qd : Hp → Prop}
/-- at the end of a turn: the value told, the heap extended -/
theorem lcv_put {zs : List V} (hz : zs.length < 1000000) {i : Nat} {z : V} {H' H4 : Hp} (hD : H1 D = none) (hz' : zs[i]? = some z) (S : Same H1 H') (hH : H' D = some (.lst (zs.take i))) (S4 : Same H' H4) :
    ∃ acc, H4 D = some (.lst acc) ∧ acc.length < sizeLine ∧ (Same H1 (upd H4 D (.lst (acc ++ [z]))) ∧ upd H4 D (.lst (acc ++ [z])) D = some (.lst (zs.take (i + 1)))) := by
  refine ⟨_, S4 _ _ hH, ?_, same_put (fun c u h => S4 _ _ (S _ _ h)) hD, ?_⟩
  · rw [List.length_take]
    exact Nat.lt_of_le_of_lt (Nat.min_le_right _ _) (Nat.lt_of_lt_of_le hz (by decide))
  · rw [upd_same, List.take_succ, hz']; rfl
theorem yes_eq {R : L2.St → VK} {A : L2.St → Prop} {N : Hp → Prop} : (fun (σ2 : L2.St) (H2 : Hp) => A σ2 ∧ tYes σ2 H2 fun b H3 => if b = true then te σ2 H3 (R σ2) else N H3) = fun σ2 H2 => A σ2 ∧ te σ2 H2 (R σ2) := by
  funext σ2 H2
  show (A σ2 ∧ if true = true then te σ2 H2 (R σ2) else N H2) = _
  rw [if_pos rfl]
/-- over any walk that leaves the heap as it is -/
theorem lcv_wk {J : It} {n : Nat} {G : Hp → Prop} {f : Nat → V} (zs : List V) (w : Walk J n G fun i H v H' => H' = H ∧ v = f i) (lz : zs.length = n) (hz : zs.length < 1000000) (hD : H1 D = none) (keep : ∀ H', Same H1 H' → G H')
    (hs : ∀ (i : Nat) (z : V) (H' : Hp), i < n → zs[i]? = some z → Same H1 H' → ∀ R : VK, (∀ H4, Same H' H4 → R z H4) → g (f i) (wipe σ vs) H' fun σ2 H2 => wipe σ2 vs = wipe σ vs ∧ te σ2 H2 R)
    (hd : ∀ H', Same H1 H' → H' D = some (.lst zs) → Qd H') :
    ∃ W : Nat → Nat → Hp → Prop, (∃ m, W 0 m (upd H1 D (.lst []))) ∧ ∀ i m H, W i m H →
      (J.stop i H ∧ Qd H) ∨ (J.go i H ∧ ∃ Nx : Hp → Prop, (∀ H', Nx H' → ∃ m', m' < m ∧ W (i + 1) m' H') ∧ ∀ x H', J.yld i H x H' → g x (wipe σ vs) H' fun σ2 H2 => wipe σ2 vs = wipe σ vs ∧ tYes σ2 H2 fun b H3 =>
        if b = true then te σ2 H3 fun y H4 => ∃ acc, H4 D = some (.lst acc) ∧ acc.length < sizeLine ∧ Nx (upd H4 D (.lst (acc ++ [y]))) else Nx H3) := by
  refine lc_it w (fun i H' => Same H1 H' ∧ H' D = some (.lst (zs.take i))) ⟨Same.fresh hD, upd_same⟩ (fun i H' _ p => keep H' p.1) (fun i x H' H'' hi p y => ?_) (fun H' p => ?_)
  · obtain ⟨S, hH⟩ := p
    obtain ⟨rfl, rfl⟩ := y
    have hz' : zs[i]? = some zs[i] := List.getElem?_eq_getElem (by omega)
    rw [yes_eq (R := fun _ y H4 => ∃ acc, H4 D = some (.lst acc) ∧ acc.length < sizeLine ∧ (Same H1 (upd H4 D (.lst (acc ++ [y]))) ∧ upd H4 D (.lst (acc ++ [y])) D = some (.lst (zs.take (i + 1)))))]
    exact hs i _ _ hi hz' S _ fun H4 S4 => lcv_put hz hD hz' S hH S4
  · obtain ⟨S, hH⟩ := p
    rw [← lz, List.take_length] at hH
    exact hd H' S hH
end
section
variable {K : PySem.W.Frag} {g : TG} {te : TE} {vs : List Nat} {σ : L2.St} {H1 : Hp} {D : Addr} {Qd : Hp → Prop}
theorem lcv_list {a : Addr} {xs : List V} (zs : List V) (ha : H1 a = some (.lst xs)) (lz : zs.length = xs.length) (hz : zs.length < 1000000) (hD : H1 D = none)
    (hs : ∀ (i : Nat) (x z : V) (H' : Hp), xs[i]? = some x → zs[i]? = some z → Same H1 H' → ∀ R : VK, (∀ H4, Same H' H4 → R z H4) → g x (wipe σ vs) H' fun σ2 H2 => wipe σ2 vs = wipe σ vs ∧ te σ2 H2 R)
    (hd : ∀ H', Same H1 H' → H' D = some (.lst zs) → Qd H') :
    ∃ W : Nat → Nat → Hp → Prop, (∃ m, W 0 m (upd H1 D (.lst []))) ∧ ∀ i m H, W i m H →
      ((Itl K a).stop i H ∧ Qd H) ∨ ((Itl K a).go i H ∧ ∃ Nx : Hp → Prop, (∀ H', Nx H' → ∃ m', m' < m ∧ W (i + 1) m' H') ∧ ∀ x H', (Itl K a).yld i H x H' → g x (wipe σ vs) H' fun σ2 H2 => wipe σ2 vs = wipe σ vs ∧ tYes σ2 H2 fun b H3 =>
        if b = true then te σ2 H3 fun y H4 => ∃ acc, H4 D = some (.lst acc) ∧ acc.length < sizeLine ∧ Nx (upd H4 D (.lst (acc ++ [y]))) else Nx H3) := by
  refine lcv_wk (n := xs.length) (G := fun H => SqL K H a xs) (f := fun i => xs.getD i .non) zs ((walk_list).mono (fun _ h => h) fun i H x H' hi _ y => ⟨y.1, ?_⟩) lz hz hD (fun H' S => SqL.of (S _ _ ha)) (fun i z H' hi hz' S => ?_) hd
  · rw [List.getD_eq_getElem?_getD, y.2]; rfl
  · have e : xs[i]? = some (xs.getD i .non) := by rw [List.getD_eq_getElem?_getD, List.getElem?_eq_getElem hi]; rfl
    exact hs i _ z H' e hz' S
theorem lcv_tup {a : Addr} {xs : List V} (zs : List V) (ha : Tup H1 a xs) (lz : zs.length = xs.length) (hz : zs.length < 1000000) (hD : H1 D = none)
    (hs : ∀ (i : Nat) (x z : V) (H' : Hp), xs[i]? = some x → zs[i]? = some z → Same H1 H' → ∀ R : VK, (∀ H4, Same H' H4 → R z H4) → g x (wipe σ vs) H' fun σ2 H2 => wipe σ2 vs = wipe σ vs ∧ te σ2 H2 R)
    (hd : ∀ H', Same H1 H' → H' D = some (.lst zs) → Qd H') :
    ∃ W : Nat → Nat → Hp → Prop, (∃ m, W 0 m (upd H1 D (.lst []))) ∧ ∀ i m H, W i m H →
      ((Itt K a).stop i H ∧ Qd H) ∨ ((Itt K a).go i H ∧ ∃ Nx : Hp → Prop, (∀ H', Nx H' → ∃ m', m' < m ∧ W (i + 1) m' H') ∧ ∀ x H', (Itt K a).yld i H x H' → g x (wipe σ vs) H' fun σ2 H2 => wipe σ2 vs = wipe σ vs ∧ tYes σ2 H2 fun b H3 =>
        if b = true then te σ2 H3 fun y H4 => ∃ acc, H4 D = some (.lst acc) ∧ acc.length < sizeLine ∧ Nx (upd H4 D (.lst (acc ++ [y]))) else Nx H3) := by
  refine lcv_wk (n := xs.length) (G := fun H => SqT K H a xs) (f := fun i => xs.getD i .non) zs ((walk_tup).mono (fun _ h => h) fun i H x H' hi _ y => ⟨y.1, ?_⟩) lz hz hD (fun H' S => (ha.same S).sq) (fun i z H' hi hz' S => ?_) hd
  · rw [List.getD_eq_getElem?_getD, y.2]; rfl
  · have e : xs[i]? = some (xs.getD i .non) := by rw [List.getD_eq_getElem?_getD, List.getElem?_eq_getElem hi]; rfl
    exact hs i _ z H' e hz' S
theorem walk_rng {lo : Int} {n : Nat} : Walk (Itr lo n) n (fun _ => True) (fun i H v H' => H' = H ∧ v = .int (lo + i)) :=
  ⟨fun i _ hi _ => hi, fun _ _ => Nat.le_refl _, fun _ _ _ _ _ _ y => ⟨y.1, y.2⟩⟩
theorem lcv_rng {lo : Int} {n : Nat} (zs : List V) (lz : zs.length = n) (hz : zs.length < 1000000) (hD : H1 D = none)
    (hs : ∀ (i : Nat) (z : V) (H' : Hp), i < n → zs[i]? = some z → Same H1 H' → ∀ R : VK, (∀ H4, Same H' H4 → R z H4) → g (.int (lo + i)) (wipe σ vs) H' fun σ2 H2 => wipe σ2 vs = wipe σ vs ∧ te σ2 H2 R)
    (hd : ∀ H', Same H1 H' → H' D = some (.lst zs) → Qd H') :
    ∃ W : Nat → Nat → Hp → Prop, (∃ m, W 0 m (upd H1 D (.lst []))) ∧ ∀ i m H, W i m H →
      ((Itr lo n).stop i H ∧ Qd H) ∨ ((Itr lo n).go i H ∧ ∃ Nx : Hp → Prop, (∀ H', Nx H' → ∃ m', m' < m ∧ W (i + 1) m' H') ∧ ∀ x H', (Itr lo n).yld i H x H' → g x (wipe σ vs) H' fun σ2 H2 => wipe σ2 vs = wipe σ vs ∧ tYes σ2 H2 fun b H3 =>
        if b = true then te σ2 H3 fun y H4 => ∃ acc, H4 D = some (.lst acc) ∧ acc.length < sizeLine ∧ Nx (upd H4 D (.lst (acc ++ [y]))) else Nx H3) :=
  lcv_wk (n := n) (G := fun _ => True) (f := fun i => .int (lo + i)) zs walk_rng lz hz hD (fun _ _ => trivial) hs hd
end
/-! with a filter: what stays is told by f over a list beside the walk -/
section
variable {K : PySem.W.Frag} {g : TG} {tt : TT} {te : TE} {vs : List Nat} {σ : L2.St} {H1 : Hp} {D : Addr} {Qd : Hp → Prop}
theorem lcf_wk {α : Type} {J : It} {n : Nat} {G : Hp → Prop} {v : Nat → V} (es : List α) (f : α → Option V) (w : Walk J n G fun i H x H' => H' = H ∧ x = v i) (le : es.length = n) (hz : n < 1000000) (hD : H1 D = none) (keep : ∀ H', Same H1 H' → G H')
    (hs : ∀ (i : Nat) (e : α) (H' : Hp), i < n → es[i]? = some e → Same H1 H' → ∀ (R : VK) (N : Hp → Prop), (∀ z H4, f e = some z → Same H' H4 → R z H4) → (∀ H4, f e = none → Same H' H4 → N H4) →
      g (v i) (wipe σ vs) H' fun σ2 H2 => wipe σ2 vs = wipe σ vs ∧ tt σ2 H2 fun b H3 => if b = true then te σ2 H3 R else N H3)
    (hd : ∀ H', Same H1 H' → H' D = some (.lst (es.filterMap f)) → Qd H') :
    ∃ W : Nat → Nat → Hp → Prop, (∃ m, W 0 m (upd H1 D (.lst []))) ∧ ∀ i m H, W i m H →
      (J.stop i H ∧ Qd H) ∨ (J.go i H ∧ ∃ Nx : Hp → Prop, (∀ H', Nx H' → ∃ m', m' < m ∧ W (i + 1) m' H') ∧ ∀ x H', J.yld i H x H' → g x (wipe σ vs) H' fun σ2 H2 => wipe σ2 vs = wipe σ vs ∧ tt σ2 H2 fun b H3 =>
        if b = true then te σ2 H3 fun y H4 => ∃ acc, H4 D = some (.lst acc) ∧ acc.length < sizeLine ∧ Nx (upd H4 D (.lst (acc ++ [y]))) else Nx H3) := by
  refine lc_it w (fun i H' => Same H1 H' ∧ H' D = some (.lst ((es.take i).filterMap f))) ⟨Same.fresh hD, upd_same⟩ (fun i H' _ p => keep H' p.1) (fun i x H' H'' hi p y => ?_) (fun H' p => ?_)
  · obtain ⟨S, hH⟩ := p
    obtain ⟨rfl, rfl⟩ := y
    have he : es[i]? = some es[i] := List.getElem?_eq_getElem (by omega)
    have tk : (es.take (i + 1)).filterMap f = (es.take i).filterMap f ++ (f es[i]).toList := by
      rw [List.take_succ, he, List.filterMap_append]
      congr 1
    refine hs i _ _ hi he S _ _ (fun z H4 hf S4 => ?_) (fun H4 hf S4 => ?_)
    · refine ⟨_, S4 _ _ hH, ?_, same_put (fun c u h => S4 _ _ (S _ _ h)) hD, ?_⟩
      · have h1 := List.length_filterMap_le f (es.take i)
        have h2 : (es.take i).length ≤ es.length := by rw [List.length_take]; omega
        exact Nat.lt_of_lt_of_le (by omega : ((es.take i).filterMap f).length < 1000000) (by decide)
      · rw [upd_same, tk, hf]; rfl
    · refine ⟨fun c u h => S4 _ _ (S _ _ h), ?_⟩
      rw [tk, hf]
      simpa using S4 _ _ hH
  · obtain ⟨S, hH⟩ := p
    rw [← le, List.take_length] at hH
    exact hd H' S hH
theorem lcf_list {α : Type} {a : Addr} {xs : List V} (es : List α) (f : α → Option V) (ha : H1 a = some (.lst xs)) (le : es.length = xs.length) (hz : xs.length < 1000000) (hD : H1 D = none)
    (hs : ∀ (i : Nat) (x : V) (e : α) (H' : Hp), xs[i]? = some x → es[i]? = some e → Same H1 H' → ∀ (R : VK) (N : Hp → Prop), (∀ z H4, f e = some z → Same H' H4 → R z H4) → (∀ H4, f e = none → Same H' H4 → N H4) →
      g x (wipe σ vs) H' fun σ2 H2 => wipe σ2 vs = wipe σ vs ∧ tt σ2 H2 fun b H3 => if b = true then te σ2 H3 R else N H3)
    (hd : ∀ H', Same H1 H' → H' D = some (.lst (es.filterMap f)) → Qd H') :
    ∃ W : Nat → Nat → Hp → Prop, (∃ m, W 0 m (upd H1 D (.lst []))) ∧ ∀ i m H, W i m H →
      ((Itl K a).stop i H ∧ Qd H) ∨ ((Itl K a).go i H ∧ ∃ Nx : Hp → Prop, (∀ H', Nx H' → ∃ m', m' < m ∧ W (i + 1) m' H') ∧ ∀ x H', (Itl K a).yld i H x H' → g x (wipe σ vs) H' fun σ2 H2 => wipe σ2 vs = wipe σ vs ∧ tt σ2 H2 fun b H3 =>
        if b = true then te σ2 H3 fun y H4 => ∃ acc, H4 D = some (.lst acc) ∧ acc.length < sizeLine ∧ Nx (upd H4 D (.lst (acc ++ [y]))) else Nx H3) := by
  refine lcf_wk (n := xs.length) (G := fun H => SqL K H a xs) (v := fun i => xs.getD i .non) es f ((walk_list).mono (fun _ h => h) fun i H x H' hi _ y => ⟨y.1, ?_⟩) le hz hD (fun H' S => SqL.of (S _ _ ha)) (fun i e H' hi he S => ?_) hd
  · rw [List.getD_eq_getElem?_getD, y.2]; rfl
  · have e' : xs[i]? = some (xs.getD i .non) := by rw [List.getD_eq_getElem?_getD, List.getElem?_eq_getElem hi]; rfl
    exact hs i _ e H' e' he S
theorem lcf_tup {α : Type} {a : Addr} {xs : List V} (es : List α) (f : α → Option V) (ha : Tup H1 a xs) (le : es.length = xs.length) (hz : xs.length < 1000000) (hD : H1 D = none)
    (hs : ∀ (i : Nat) (x : V) (e : α) (H' : Hp), xs[i]? = some x → es[i]? = some e → Same H1 H' → ∀ (R : VK) (N : Hp → Prop), (∀ z H4, f e = some z → Same H' H4 → R z H4) → (∀ H4, f e = none → Same H' H4 → N H4) →
      g x (wipe σ vs) H' fun σ2 H2 => wipe σ2 vs = wipe σ vs ∧ tt σ2 H2 fun b H3 => if b = true then te σ2 H3 R else N H3)
    (hd : ∀ H', Same H1 H' → H' D = some (.lst (es.filterMap f)) → Qd H') :
    ∃ W : Nat → Nat → Hp → Prop, (∃ m, W 0 m (upd H1 D (.lst []))) ∧ ∀ i m H, W i m H →
      ((Itt K a).stop i H ∧ Qd H) ∨ ((Itt K a).go i H ∧ ∃ Nx : Hp → Prop, (∀ H', Nx H' → ∃ m', m' < m ∧ W (i + 1) m' H') ∧ ∀ x H', (Itt K a).yld i H x H' → g x (wipe σ vs) H' fun σ2 H2 => wipe σ2 vs = wipe σ vs ∧ tt σ2 H2 fun b H3 =>
        if b = true then te σ2 H3 fun y H4 => ∃ acc, H4 D = some (.lst acc) ∧ acc.length < sizeLine ∧ Nx (upd H4 D (.lst (acc ++ [y]))) else Nx H3) := by
  refine lcf_wk (n := xs.length) (G := fun H => SqT K H a xs) (v := fun i => xs.getD i .non) es f ((walk_tup).mono (fun _ h => h) fun i H x H' hi _ y => ⟨y.1, ?_⟩) le hz hD (fun H' S => (ha.same S).sq) (fun i e H' hi he S => ?_) hd
  · rw [List.getD_eq_getElem?_getD, y.2]; rfl
  · have e' : xs[i]? = some (xs.getD i .non) := by rw [List.getD_eq_getElem?_getD, List.getElem?_eq_getElem hi]; rfl
    exact hs i _ e H' e' he S
end
/-! enumerate in a for -/
section
variable {K : PySem.W.Frag} {g : TG} {tb : TS} {D : Ends} {σ : L2.St} {H : Hp} {a : Addr} {xs : List V}
theorem for_enumL (Pv : Nat → L2.St → Hp → Prop) (h0 : Pv 0 σ H) (hl : ∀ i σ H', Pv i σ H' → SqL K H' a xs)
    (hs : ∀ i y σ H' T H2, xs[i]? = some y → Pv i σ H' → H' T = none → Same H' H2 → H2 T = some (.tup [.int (i : Nat), y]) → g (.ref T) σ H2 fun σ3 H3 => tb { D with nx := Pv (i + 1), ct := Pv (i + 1), bk := D.nx } σ3 H3)
    (hd : ∀ σ H', Pv xs.length σ H' → D.nx σ H') :
    ∃ W : Nat → Nat → L2.St → Hp → Prop, (∃ m, W 0 m σ H) ∧ ∀ i m σ H, W i m σ H →
      ((Ite K a).stop i H ∧ D.nx σ H) ∨ ((Ite K a).go i H ∧ ∃ N : L2.St → Hp → Prop, (∀ σ' H', N σ' H' → ∃ m', m' < m ∧ W (i + 1) m' σ' H') ∧ ∀ x H', (Ite K a).yld i H x H' → g x σ H' fun σ2 H2 => tb { D with nx := N, ct := N, bk := D.nx } σ2 H2) :=
  for_it (walk_enum (K := K) (xs := xs)) Pv h0 (fun i σ H' _ p => hl i σ H' p) (fun i v σ H1 H2 _ hp y => by
    obtain ⟨T, b, c, rfl, hT, rfl, hb, hc⟩ := y
    have hb : some (V.int (i : Nat)) = some b := hb
    cases hb
    exact hs i c σ H1 T _ hc hp hT (Same.fresh hT) upd_same) hd
theorem for_enumTu (Pv : Nat → L2.St → Hp → Prop) (h0 : Pv 0 σ H) (hl : ∀ i σ H', Pv i σ H' → SqT K H' a xs)
    (hs : ∀ i y σ H' T H2, xs[i]? = some y → Pv i σ H' → H' T = none → Same H' H2 → H2 T = some (.tup [.int (i : Nat), y]) → g (.ref T) σ H2 fun σ3 H3 => tb { D with nx := Pv (i + 1), ct := Pv (i + 1), bk := D.nx } σ3 H3)
    (hd : ∀ σ H', Pv xs.length σ H' → D.nx σ H') :
    ∃ W : Nat → Nat → L2.St → Hp → Prop, (∃ m, W 0 m σ H) ∧ ∀ i m σ H, W i m σ H →
      ((Itn K a).stop i H ∧ D.nx σ H) ∨ ((Itn K a).go i H ∧ ∃ N : L2.St → Hp → Prop, (∀ σ' H', N σ' H' → ∃ m', m' < m ∧ W (i + 1) m' σ' H') ∧ ∀ x H', (Itn K a).yld i H x H' → g x σ H' fun σ2 H2 => tb { D with nx := N, ct := N, bk := D.nx } σ2 H2) :=
  for_it (walk_enumT (K := K) (xs := xs)) Pv h0 (fun i σ H' _ p => hl i σ H' p) (fun i v σ H1 H2 _ hp y => by
    obtain ⟨T, b, c, rfl, hT, rfl, hb, hc⟩ := y
    have hb : some (V.int (i : Nat)) = some b := hb
    cases hb
    exact hs i c σ H1 T _ hc hp hT (Same.fresh hT) upd_same) hd
end
end KX

namespace KX
open PySem PySem.Spec PyProof.Rows L2
/-! t[::-1] of a tuple -/
section
variable {prog : Program} {w : World} {A : Around} {E : Value → Shared → Prop} {s : Shared}
theorem places_back (n : Nat) : Builtin.Slice.slicePlaces ((n : Int) - 1) (-1) (-1) = n := by
  unfold Builtin.Slice.slicePlaces
  have h1 : ¬ ((-1 : Int) > 0) := by omega
  have e : -(-1 : Int) = 1 := by decide
  simp only [h1, if_false, e, Int.ediv_one]
  split <;> omega
theorem applied_back {sl : Addr} {vl vu vs : Value} {n : Nat} {Q : Int × Int × Nat → Shared → Prop} (hs : s.heap.IsSliceOf sl vl vu vs) (pl : IsPart vl none) (pu : IsPart vu none) (ps : IsPart vs (some (-1)))
    (h : Q (((n : Int) - 1), -1, n) s) : wpAny (model prog w) A (Builtin.Slice.sliceApplied (.ref sl) (pure (n : Int))) Q E s := by
  obtain ⟨os, hos, hcs, hds⟩ := id hs
  unfold Builtin.Slice.sliceApplied Builtin.Slice.sliceFields
  refine wpAny_bind (wpAny_bind (wpAny_field hos hds (x := vl) rfl (wpAny_bind (wpAny_field hos hds (x := vu) rfl (wpAny_bind (wpAny_field hos hds (x := vs) rfl (wpAny_pure ?_)))))))
  refine wpAny_bind (HT.slicePart_ ps ?_)
  show wpAny _ _ (if ((-1 : Int) == 0) = true then _ else _) _ _ s
  rw [if_neg (by decide)]
  refine wpAny_bind (HT.slicePart_ pl (wpAny_bind (HT.slicePart_ pu (wpAny_bind (wpAny_pure ?_)))))
  have e : Builtin.Slice.sliceAdjust none none (-1) (n : Int) = ((n : Int) - 1, -1) := by
    unfold Builtin.Slice.sliceAdjust
    simp
  show wpAny _ _ (match Builtin.Slice.sliceAdjust none none (-1) (n : Int) with | (lo, hi) => pure (lo, (-1 : Int), Builtin.Slice.slicePlaces lo hi (-1))) _ _ s
  rw [e]
  show wpAny _ _ (pure ((n : Int) - 1, (-1 : Int), Builtin.Slice.slicePlaces ((n : Int) - 1) (-1) (-1))) _ _ s
  rw [places_back]
  exact wpAny_pure h
theorem pick_back (xs : Array Value) : ((List.range xs.size).filterMap fun (m : Nat) => xs[(((xs.size : Nat) : Int) - 1 + (m : Int) * (-1)).toNat]?).toArray = xs.toList.reverse.toArray := by
  congr 1
  have e : ∀ m ∈ List.range xs.size, xs[(((xs.size : Nat) : Int) - 1 + (m : Int) * (-1)).toNat]? = xs[xs.size - 1 - m]? := fun m hm => by
    have := List.mem_range.mp hm
    have e : (((xs.size : Nat) : Int) - 1 + (m : Int) * (-1)).toNat = xs.size - 1 - m := by omega
    rw [e]
  have e2 : ((List.range xs.size).filterMap fun (m : Nat) => xs[(((xs.size : Nat) : Int) - 1 + (m : Int) * (-1)).toNat]?) = (List.range xs.size).filterMap fun m => xs[xs.size - 1 - m]? := by
    have gen : ∀ l : List Nat, (∀ m ∈ l, m ∈ List.range xs.size) → (l.filterMap fun (m : Nat) => xs[(((xs.size : Nat) : Int) - 1 + (m : Int) * (-1)).toNat]?) = l.filterMap fun m => xs[xs.size - 1 - m]? := by
      intro l
      induction l with
      | nil => intro _; rfl
      | cons a l ih =>
        intro h
        rw [List.filterMap_cons, List.filterMap_cons, e a (h a List.mem_cons_self), ih fun m hm => h m (List.mem_cons_of_mem _ hm)]
    exact gen _ fun _ h => h
  rw [e2]
  have e3 := PySem.W.krv_range xs.size
  have e4 : ((List.range xs.size).filterMap fun m => xs[xs.size - 1 - m]?) = ((List.range xs.size).map fun k => xs.size - 1 - k).filterMap fun k => xs[k]? := by
    rw [List.filterMap_map]; rfl
  rw [e4, e3, List.filterMap_reverse]
  congr 1
  exact PySem.W.krv_all xs
theorem getItem_tuple_back {t sl : Addr} {items : Array Value} {vl vu vs : Value} {Q : Value → Shared → Prop} (ht : IsTup s.heap t items) (hs : s.heap.IsSliceOf sl vl vu vs) (pl : IsPart vl none) (pu : IsPart vu none) (ps : IsPart vs (some (-1)))
    (h : Q (.ref s.heap.objs.size) { s with heap := s.heap.push { cls := .type "tuple", data := .seq items.toList.reverse.toArray } })
    (hsz : items.size ≤ sizeLine) : wpAny (model prog w) A (getItem (.ref t) (.ref sl)) Q E s := by
  have htake : sizeOk (.seq items.toList.reverse.toArray) := by
    show items.toList.reverse.toArray.size ≤ sizeLine
    rw [List.size_toArray, List.length_reverse, Array.length_toList]
    exact hsz
  obtain ⟨os, hos, hcs, hds⟩ := id hs
  have hTs : s.TypeIs (.ref sl) "slice" := ⟨os, hos, hcs⟩
  unfold getItem
  try with_reducible refine wpAny_holding ?_
  first | refine wpAny_bind (wpAny_pure ?_) | skip
  refine wpAny_bind (wpAny_sequenceKey ht.typeIs (by decide) ?_)
  refine wpAny_bind (wpAny_callSpecial?_slot (name := Str.ofString "__getitem__") ht.typeIs PyProof.Rows.slot_tuple_getitem
    (wpAny_call_entry PyProof.Rows.slot_tuple_getitem ht.typeIs entry_tuple_getitem ?_ (args_tuple_getitem _ _)))
  show wpAny _ _ (Builtin.Tuple.tupleItemsOf (.ref t) >>= _) _ _ s
  refine wpAny_bind (tupleItemsOf_ ht ?_)
  refine wpAny_bind (wpAny_typeOf hTs ?_)
  rw [if_pos (by decide)]
  refine wpAny_bind (applied_back (n := items.size) hs pl pu ps ?_)
  have hno : ¬ ((((items.size : Nat) : Int) - 1 == 0 && (-1 : Int) == 1 && items.size == items.size) = true) := by
    intro q
    rw [Bool.and_eq_true, Bool.and_eq_true] at q
    exact absurd q.1.2 (by decide)
  show wpAny _ _ (if (((items.size : Nat) : Int) - 1 == 0 && (-1 : Int) == 1 && items.size == items.size) = true then _ else _) _ _ s
  rw [if_neg hno, pick_back]
  first
    | exact wpAny_bind (m := Builtin.Tuple.tupleExact _) (wpAny_newObj_type (wpAny_pure ⟨_, rfl, wpAny_pure h⟩) htake)
    | exact wpAny_bind (m := Builtin.Tuple.tupleExact _) (wpAny_newObj_type (wpAny_bind (wpAny_pure (wpAny_pure ⟨_, rfl, wpAny_pure h⟩))) htake)
    | exact wpAny_bind (wpAny_bind (m := Builtin.Tuple.tupleExact _) (wpAny_newObj_type (wpAny_pure (wpAny_pure ⟨_, rfl, wpAny_pure h⟩)) htake))
    | exact wpAny_bind (wpAny_bind (m := Builtin.Tuple.tupleExact _) (wpAny_newObj_type (wpAny_pure ⟨_, rfl, wpAny_pure h⟩) htake))
end
section
variable {X : Cx} {K : PySem.W.Frag}
/-- t[::-1] -/
def tRevT (K : PySem.W.Frag) (te : TE) : TE := fun σ H Q => te σ H fun x H1 => ∃ a xs, x = .ref a ∧ Tup H1 a xs ∧ ∀ H' p, Same H1 H' → H1 p = none → H' p = some (.tup xs.reverse) → Q (.ref p) H'
theorem pe_revT {e : Expr} {te : TE} {k : Nat} {p1 p2 p3 pos : Pos} (he : PE X e te) : PE X (.Subscript e (.Slice none none (some (.UnaryOp .USub (.Constant (.int 1) k p1) p2)) p3) pos) (tRevT K te) := by
  refine ⟨fun pins s σ H Q I h => ?_⟩
  refine Subscript_ (thn (he.run pins s σ H _ I h) fun v s1 ⟨x, H1, I1, r1, q1⟩ => ?_)
  obtain ⟨a, xs, ex, hx, q⟩ := q1
  subst ex
  cases r1
  have hst : PO X (some (.UnaryOp .USub (.Constant (.int 1) k p1) p2)) (tPart (tUn (rU fun i => .int (-i)) (tC (.int 1)))) := po_some (pe_un un_neg pe_int)
  refine wpAny_Slice (thn (po_none.run pins s1 σ H1 (fun o H2 => o = none ∧ H2 = H1) I1 ⟨rfl, rfl⟩) fun vl s2 ⟨l, H2, I2, pl, el, e2⟩ => ?_)
  subst el e2
  refine thn (po_none.run pins s2 σ H2 (fun o H3 => o = none ∧ H3 = H2) I2 ⟨rfl, rfl⟩) fun vu s3 ⟨u, H3, I3, pu, eu, e3⟩ => ?_
  subst eu e3
  refine thn (hst.run pins s3 σ H3 (fun o H4 => o = some (-1) ∧ H4 = H3) I3 ⟨1, rfl, -1, rfl, rfl, rfl⟩) fun vs s4 ⟨o, H4, I4, ps, eo, e4⟩ => ?_
  subst eo e4
  have I5 : Inv X pins σ H4 { s4 with heap := s4.heap.push { cls := .type "slice", data := .fields #[vl, vu, vs] } } := I4.kept (t' := s4.toks) fun b ob q => Heap.get?_push_of_some _ q
  obtain ⟨its, r, ht, hz⟩ := I5.tuple hx.sq
  have hlen := r.length
  show wpAny (model X.prog X.w) X.A (subscriptTail e (.Slice none none (some (.UnaryOp .USub (.Constant (.int 1) k p1) p2)) p3) (.ref a) (.ref s4.heap.objs.size)) (EP X pins σ Q) X.xe { s4 with heap := s4.heap.push { cls := .type "slice", data := .fields #[vl, vu, vs] } }
  refine tail_any (ops := [.ref a, .ref s4.heap.objs.size]) ht.typeIs (PyProof.Rows.slot_tuple_getitem.lookup) ?_ (by with_unfolding_all rfl)
  refine getItem_tuple_back ht (Heap.IsSliceOf.new _ vl vu vs) pl pu ps ?_ (by rw [List.size_toArray]; omega)
  refine ⟨.ref _, _, I5.laid (t' := s4.toks) (o := .tup xs.reverse) (fun b ob q => Heap.get?_push_of_some _ q) (Nat.le_refl _) ?_, rfl, q _ _ (Same.fresh (I5.hok.fresh (Nat.le_refl _))) (I5.hok.fresh (Nat.le_refl _)) upd_same⟩
  exact ⟨by rw [List.length_reverse]; exact hz, _, r.reverse, IsTup.new _ _⟩
theorem rd_revT {te : TE} {σ : L2.St} {H : Hp} {Q : VK} (h : te σ H fun x H1 => ∃ a xs, x = .ref a ∧ Tup H1 a xs ∧ NewO H1 (.tup xs.reverse) Q) : tRevT K te σ H Q := by
  have e : (fun x H1 => ∃ a xs, x = V.ref a ∧ Tup H1 a xs ∧ NewO H1 (.tup xs.reverse) Q) = (fun x H1 => ∃ a xs, x = V.ref a ∧ Tup H1 a xs ∧ ∀ H' p, Same H1 H' → H1 p = none → H' p = some (.tup xs.reverse) → Q (.ref p) H') := by
    funext x H1
    refine propext ⟨fun ⟨a, xs, h1, h2, h3⟩ => ⟨a, xs, h1, h2, fun H' p s n e => h3 p H' n s e⟩, fun ⟨a, xs, h1, h2, h3⟩ => ⟨a, xs, h1, h2, fun p H' n s e => h3 H' p s n e⟩⟩
  show te σ H _
  rw [← e]
  exact h
end
end KX

namespace KX
open PySem PySem.Spec PyProof.Rows L2
/-! sorted of a list of data that are alike -/
def rSortD (K : PySem.W.Frag) : List V → Hp → VK → Prop := fun vs H Q => ∃ (β : Type) (enc : β → PyData) (a : Addr) (xs : List V) (bs : List β) (F : V → β → Prop), vs = [V.ref a] ∧ SqL K H a xs ∧ Paired F xs bs ∧ (∀ x b, F x b → Dp K H x (enc b)) ∧
  (∀ b b', PySem.W.alike (enc b) (enc b') = true) ∧ (∀ b, ∃ x r, enc b = .tuple (x :: r)) ∧ (∀ b, (enc b).depth ≤ 60) ∧
  ∀ ys p, Paired F ys (bs.mergeSort (PySem.W.dataLe false enc)) → H p = none → Q (.ref p) (upd H p (.lst ys))
theorem each_zip {β : Type} {F : V → β → Prop} {xs : List V} {bs : List β} {its : List Value} (r : Vals xs its) (p : Paired F xs bs) : PySem.W.EachIs (fun u (z : V × β) => RelV z.1 u) its (xs.zip bs) := by
  induction p generalizing its with
  | nil => cases r; exact .nil
  | cons a _ ih =>
    cases r with
    | cons r1 r2 => exact .cons r1 (ih r2)
theorem each_reads {X : Cx} {pins : List (Addr × Obj)} {σ : L2.St} {H : Hp} {s : Shared} {β : Type} {F : V → β → Prop} {enc : β → PyData} {xs : List V} {bs : List β} {its : List Value} (I : L2.Inv X pins σ H s) (r : Vals xs its) (p : Paired F xs bs) (hd : ∀ x b, F x b → Dp X.K H x (enc b)) :
    PySem.W.EachIs (fun u (z : V × β) => ∃ as, Reads s.heap u (enc z.2) as) its (xs.zip bs) := by
  induction p generalizing its with
  | nil => cases r; exact .nil
  | cons a _ ih =>
    cases r with
    | cons r1 r2 => exact .cons (Dp.reads I _ _ _ (hd _ _ a) r1) (ih r2)
theorem paired_zip {β : Type} {F : V → β → Prop} {xs : List V} {bs : List β} (p : Paired F xs bs) : (∀ z ∈ xs.zip bs, F z.1 z.2) ∧ (xs.zip bs).map (·.2) = bs := by
  induction p with
  | nil => exact ⟨by simp, rfl⟩
  | cons a _ ih =>
    refine ⟨fun z hz => ?_, ?_⟩
    · rcases List.mem_cons.mp hz with e | e
      · rw [e]; exact a
      · exact ih.1 z e
    · have := ih.2
      exact congrArg (_ :: ·) this
theorem paired_of {β : Type} {F : V → β → Prop} : ∀ zs : List (V × β), (∀ z ∈ zs, F z.1 z.2) → Paired F (zs.map (·.1)) (zs.map (·.2))
  | [], _ => .nil
  | z :: zs, h => .cons (h z List.mem_cons_self) (paired_of zs fun y hy => h y (List.mem_cons_of_mem _ hy))
theorem vals_each {β : Type} : ∀ {out : List Value} {zs : List (V × β)}, PySem.W.EachIs (fun u (z : V × β) => RelV z.1 u) out zs → Vals (zs.map (·.1)) out
  | _, _, .nil => .nil
  | _, _, .cons a t => .cons a (vals_each t)
theorem cr_sortedD {X : Cx} (hu : X.A.units + 64 < cLine) : CallR X (.builtin "sorted") (rSortD X.K) := by
  intro pins s σ H vs us Q I r h
  obtain ⟨β, enc, a, xs, bs, F, rfl, hs, hp, hd, hal, htp, hdep, q⟩ := h
  obtain ⟨its, rv, hl, hz⟩ := I.list hs
  rw [Vals.ref1 r]
  obtain ⟨pz, pe⟩ := paired_zip hp
  have em : (xs.zip bs).map (fun z => enc z.2) = bs.map enc := by
    have : (xs.zip bs).map (fun z => enc z.2) = ((xs.zip bs).map (·.2)).map enc := by rw [List.map_map]; rfl
    rw [this, pe]
  refine PySem.W.sorted_data (bs := xs.zip bs) (enc := fun z => enc z.2) (R := fun u (z : V × β) => RelV z.1 u) hl.isList (each_zip rv hp) (each_reads I rv hp hd) (PySem.W.AllAlike.of fun z z' => hal z.2 z'.2) (PySem.W.Sortable.tuples fun z => htp z.2)
    (by rw [List.length_zip]; omega) (fun z _ => by have := hdep z.2; omega) fun out lo eo => ?_
  have hout := vals_each eo
  have ez : ((xs.zip bs).mergeSort (PySem.W.dataLe false fun z => enc z.2)).map (·.2) = bs.mergeSort (PySem.W.dataLe false enc) := by
    rw [List.map_mergeSort (r := PySem.W.dataLe false fun z : V × β => enc z.2) (s := PySem.W.dataLe false enc) (f := fun z : V × β => z.2) (fun a _ b _ => rfl), pe]
  have pf : Paired F (((xs.zip bs).mergeSort (PySem.W.dataLe false fun z => enc z.2)).map (·.1)) (bs.mergeSort (PySem.W.dataLe false enc)) := by
    rw [← ez]
    exact paired_of _ fun z hz => pz z ((List.mergeSort_perm _ _).mem_iff.mp hz)
  obtain ⟨ep, he'⟩ := PyProof.Rows.sortedAll_at s.heap its out.toArray
  refine ⟨.ref _, upd H (s.heap.objs.size + 1) (.lst (((xs.zip bs).mergeSort (PySem.W.dataLe false fun z => enc z.2)).map (·.1))), I.laid (t' := s.toks) (fun _ _ => PyProof.Rows.sortedAll_old) (Nat.le_succ _) ⟨?_, out, ep, hout, he'⟩, rfl, q _ _ pf (I.hok.fresh (Nat.le_succ _))⟩
  rw [List.length_map, (List.mergeSort_perm _ _).length_eq, List.length_zip]
  omega
theorem cr_sortedDK {X : Cx} {K : PySem.W.Frag} (hu : X.A.units + 64 < cLine) (hK : X.K = K := by rfl) : CallR X (.builtin "sorted") (rSortD K) := by subst hK; exact cr_sortedD hu
end KX

namespace KX
open PySem PySem.Spec PyProof.Rows L2
/-! min of a tuple of ints; a list times a number; an item set -/
theorem minOf_le : ∀ (xs : List Int) (x : Int), PySem.W.minOf x xs ∈ x :: xs ∧ ∀ y ∈ x :: xs, PySem.W.minOf x xs ≤ y
  | [], x => ⟨List.mem_cons_self, fun y hy => by
      have : y = x := by simpa using hy
      rw [this]; exact Int.le_refl _⟩
  | z :: xs, x => by
    have e : PySem.W.minOf x (z :: xs) = PySem.W.minOf (if z < x then z else x) xs := by
      show List.foldl _ (if decide (z < x) = true then z else x) xs = List.foldl _ (if z < x then z else x) xs
      by_cases c : z < x
      · rw [if_pos (decide_eq_true c), if_pos c]
      · rw [if_neg (by simp [c]), if_neg c]
    rw [e]
    obtain ⟨h1, h2⟩ := minOf_le xs (if z < x then z else x)
    have h3 := h2 _ List.mem_cons_self
    refine ⟨?_, fun y hy => ?_⟩
    · rcases List.mem_cons.mp h1 with y | y
      · rw [y]
        by_cases c : z < x
        · rw [if_pos c]; simp
        · rw [if_neg c]; simp
      · exact List.mem_cons_of_mem _ (List.mem_cons_of_mem _ y)
    · rcases List.mem_cons.mp hy with w | w
      · rw [w]
        by_cases c : z < x
        · rw [if_pos c] at h3; rw [if_pos c]; omega
        · rw [if_neg c] at h3; rw [if_neg c]; exact h3
      · rcases List.mem_cons.mp w with w | w
        · rw [w]
          by_cases c : z < x
          · rw [if_pos c] at h3; rw [if_pos c]; exact h3
          · rw [if_neg c] at h3; rw [if_neg c]; omega
        · exact h2 y (List.mem_cons_of_mem _ w)
def rMinT (K : PySem.W.Frag) : List V → Hp → VK → Prop := fun vs H Q => ∃ (a : Addr) (ns : List Int), vs = [V.ref a] ∧ SqT K H a (ns.map V.int) ∧ 0 < ns.length ∧ ∀ m, m ∈ ns → (∀ y, y ∈ ns → m ≤ y) → Q (.int m) H
theorem cr_minT {X : Cx} (hc : X.calm = true) (hu : X.A.units + 64 < cLine) : CallR X (.builtin "min") (rMinT X.K) := by
  intro pins s σ H vs us Q I r h
  obtain ⟨a, ns, rfl, hs, hne, q⟩ := h
  obtain ⟨its, rv, ht, _⟩ := I.tuple hs
  rw [Vals.ref1 r]
  have hi := rv.ints
  cases ns with
  | nil => exact absurd hne (by simp)
  | cons n ns =>
    refine PySem.W.min_tuple_datum (α := Int) (x := n) (xs := ns) (I.ok.hd hc) ht (by simpa using PySem.W.HoldAll.of_ints hi) ?_ fun i v h' tk hv hh hk => ?_
    · have : PySem.W.Datum.depth Int ≤ 60 := by decide
      omega
    · obtain ⟨t, rfl⟩ := PySem.W.int_of_holds hh
      obtain ⟨h1, h2⟩ := minOf_le ns n
      exact ⟨.int _, H, I.kept hk, ⟨_, rfl⟩, q _ h1 h2⟩
theorem cr_minTK {X : Cx} {K : PySem.W.Frag} (hc : X.calm = true) (hu : X.A.units + 64 < cLine) (hK : X.K = K := by rfl) : CallR X (.builtin "min") (rMinT K) := by subst hK; exact cr_minT hc hu
/-- the least of a list of numbers -/
def leastI (l : List Int) : Int := match l with
  | [] => 0
  | x :: xs => PySem.W.minOf x xs
theorem leastI_of {l : List Int} {m : Int} (hm : m ∈ l) (h : ∀ y ∈ l, m ≤ y) : m = leastI l := by
  cases l with
  | nil => cases hm
  | cons x xs =>
    obtain ⟨h1, h2⟩ := minOf_le xs x
    have a := h _ h1
    have b := h2 _ hm
    show m = PySem.W.minOf x xs
    omega
theorem rd_minT {K : PySem.W.Frag} {H : Hp} {Q : VK} {p : Addr} {ns : List Int} (ha : Tup H p (ns.map V.int)) (hn : 0 < ns.length) (h : Q (.int (leastI ns)) H) : rMinT K [.ref p] H Q :=
  ⟨p, ns, rfl, ha.sq, hn, fun m h1 h2 => by rw [leastI_of h1 h2]; exact h⟩
theorem rd_min {K : PySem.W.Frag} {H : Hp} {Q : VK} {p : Addr} {ns : List Int} (ha : H p = some (.lst (ns.map V.int))) (hn : 0 < ns.length) (h : Q (.int (leastI ns)) H) : rMin K [.ref p] H Q :=
  ⟨p, ns, rfl, SqL.of ha, hn, fun m h1 h2 => by rw [leastI_of h1 h2]; exact h⟩
theorem rd_sum {K : PySem.W.Frag} {H : Hp} {Q : VK} {p : Addr} {ns : List Int} (ha : H p = some (.lst (ns.map V.int))) (h : Q (.int ns.sum) H) : rSum K [.ref p] H Q := ⟨p, ns, rfl, SqL.of ha, h⟩
theorem rd_all {K : PySem.W.Frag} {H : Hp} {Q : VK} {p : Addr} {bs : List Bool} (ha : H p = some (.lst (bs.map V.bl))) (h : Q (.bl (bs.all id)) H) : rAll K [.ref p] H Q := ⟨p, bs, rfl, SqL.of ha, h⟩
theorem flat_one (k : Nat) (v : V) : (List.replicate k [v]).flatten = List.replicate k v := by
  induction k with
  | zero => rfl
  | succ k ih => rw [List.replicate_succ, List.flatten_cons, ih]; rfl
/-- [v] * k -/
theorem rd_rep1 {H : Hp} {Q : VK} {l : Addr} {k : Nat} {v : V} (hl : H l = some (.lst [v])) (hk : k < 1000) (h : NewO H (.lst (List.replicate k v)) Q) : rRep (.ref l) (.int (k : Nat)) H Q :=
  ⟨l, k, [v], rfl, rfl, hl, by omega, by omega, by
    have : ((k : Nat) : Int).toNat = k := by omega
    rw [this]
    exact Nat.le_trans (by simp; omega : [v].length * k ≤ 1000) (by decide), fun p hp => by
    have : ((k : Nat) : Int).toNat = k := by omega
    rw [this, flat_one]
    exact new_of h p hp⟩
theorem rd_setL {H : Hp} {p : Addr} {xs : List V} {k : Int} {v : V} {Q : Hp → Prop} (hp : H p = some (.lst xs)) (h0 : 0 ≤ k) (h1 : k < xs.length) (h : Q (upd H p (.lst (xs.set k.toNat v)))) : rSetL (.ref p) (.int k) v H Q :=
  ⟨p, xs, k, k.toNat, rfl, rfl, hp, by
    unfold ixN
    rw [if_pos h0]
    first
      | (rw [if_pos (by omega)])
      | (split <;> first | rfl | omega), h⟩
/-- t + u of tuples -/
theorem rd_catW {H : Hp} {Q : VK} {a b : Addr} {xs ys : List V} (ha : Tup H a xs) (hb : Tup H b ys) (hl : xs.length + ys.length ≤ 1000) (h : ∀ H' p, Same H H' → Tup H' p (xs ++ ys) → Q (.ref p) H') : rCatW (.ref a) (.ref b) H Q :=
  ⟨a, b, xs, ys, rfl, rfl, ha, hb, Nat.le_trans hl (by decide), h⟩
theorem rd_slW {H : Hp} {Q : VK} {a : Addr} {xs : List V} {lo hi : Option Int} (ha : Tup H a xs) (h : ∀ H' p, Same H H' → Tup H' p (cutV xs lo hi) → Q (.ref p) H') : rSlW (.ref a) lo hi H Q := ⟨a, xs, rfl, ha, h⟩
end KX

namespace K65
open PySem PySem.Spec PyProof.Rows L2 KX
def top (i : Nat) : Stmt :=
  PySem.Challenge.pw_handalong_k65_weights_and_what_changes_a.main.body.getD i (.Pass ⟨0, 0, 0, 0⟩)
theorem iteT' {A B : Prop} {c : Bool} (h : c = true) (a : A) : if c = true then A else B := by rw [if_pos h]; exact a
theorem iteF' {A B : Prop} {c : Bool} (h : c = false) (b : B) : if c = true then A else B := by rw [h]; exact iteF b
abbrev s_is_integer : Stmt := top 1
abbrev N_is_integer : List Str := ["value"]
theorem sc_is_integer : FnScope N_is_integer ["value"] (defScope s_is_integer) := ⟨rfl, rfl, rfl, by decide +kernel, rfl, by decide +kernel, by decide +kernel⟩
abbrev s_is_number : Stmt := top 2
abbrev N_is_number : List Str := ["value"]
theorem sc_is_number : FnScope N_is_number ["value"] (defScope s_is_number) := ⟨rfl, rfl, rfl, by decide +kernel, rfl, by decide +kernel, by decide +kernel⟩
abbrev s_is_below : Stmt := top 3
abbrev N_is_below : List Str := ["value", "limit"]
theorem sc_is_below : FnScope N_is_below ["value", "limit"] (defScope s_is_below) := ⟨rfl, rfl, rfl, by decide +kernel, rfl, by decide +kernel, by decide +kernel⟩
abbrev s_is_sequence : Stmt := top 4
abbrev N_is_sequence : List Str := ["value"]
theorem sc_is_sequence : FnScope N_is_sequence ["value"] (defScope s_is_sequence) := ⟨rfl, rfl, rfl, by decide +kernel, rfl, by decide +kernel, by decide +kernel⟩
abbrev s_is_tuple_of : Stmt := top 5
abbrev N_is_tuple_of : List Str := ["value", "length"]
theorem sc_is_tuple_of : FnScope N_is_tuple_of ["value", "length"] (defScope s_is_tuple_of) := ⟨rfl, rfl, rfl, by decide +kernel, rfl, by decide +kernel, by decide +kernel⟩
abbrev s_is_mode : Stmt := top 14
abbrev N_is_mode : List Str := ["value"]
theorem sc_is_mode : FnScope N_is_mode ["value"] (defScope s_is_mode) := ⟨rfl, rfl, rfl, by decide +kernel, rfl, by decide +kernel, by decide +kernel⟩
abbrev s_are_neighbours : Stmt := top 15
abbrev N_are_neighbours : List Str := ["value", "mode"]
theorem sc_are_neighbours : FnScope N_are_neighbours ["value"] (defScope s_are_neighbours) := ⟨rfl, rfl, rfl, by decide +kernel, rfl, by decide +kernel, by decide +kernel⟩
abbrev s_made_view : Stmt := top 16
abbrev N_made_view : List Str := ["mode", "neighbours"]
theorem sc_made_view : FnScope N_made_view ["mode", "neighbours"] (defScope s_made_view) := ⟨rfl, rfl, rfl, by decide +kernel, rfl, by decide +kernel, by decide +kernel⟩
abbrev s_is_weighing : Stmt := top 18
abbrev N_is_weighing : List Str := ["modes", "value"]
theorem sc_is_weighing : FnScope N_is_weighing ["modes", "value"] (defScope s_is_weighing) := ⟨rfl, rfl, rfl, by decide +kernel, rfl, by decide +kernel, by decide +kernel⟩
abbrev s_are_rows : Stmt := top 19
abbrev N_are_rows : List Str := ["modes", "many", "value", "row", "number"]
theorem sc_are_rows : FnScope N_are_rows ["modes", "many", "value"] (defScope s_are_rows) := ⟨rfl, rfl, rfl, by decide +kernel, rfl, by decide +kernel, by decide +kernel⟩
abbrev s_is_even_table : Stmt := top 20
abbrev N_is_even_table : List Str := ["modes", "value", "a", "b"]
theorem sc_is_even_table : FnScope N_is_even_table ["modes", "value"] (defScope s_is_even_table) := ⟨rfl, rfl, rfl, by decide +kernel, rfl, by decide +kernel, by decide +kernel⟩
abbrev s_weight : Stmt := top 21
abbrev N_weight : List Str := ["weighing", "network", "links", "sites", "modes", "along", "one", "other", "view"]
theorem sc_weight : FnScope N_weight ["weighing", "network"] (defScope s_weight) := ⟨rfl, rfl, rfl, by decide +kernel, rfl, by decide +kernel, by decide +kernel⟩
abbrev s_effect : Stmt := top 22
abbrev N_effect : List Str := ["weighing", "change", "links", "sites", "mode", "neighbours", "to", "along", "other"]
theorem sc_effect : FnScope N_effect ["weighing", "change"] (defScope s_effect) := ⟨rfl, rfl, rfl, by decide +kernel, rfl, by decide +kernel, by decide +kernel⟩
abbrev s_room : Stmt := top 23
abbrev N_room : List Str := ["weighing", "network", "links", "sites", "along", "row", "view"]
theorem sc_room : FnScope N_room ["weighing", "network"] (defScope s_room) := ⟨rfl, rfl, rfl, by decide +kernel, rfl, by decide +kernel, by decide +kernel⟩
abbrev s_checked_modes : Stmt := top 26
abbrev N_checked_modes : List Str := ["modes", "at", "mode"]
theorem sc_checked_modes : FnScope N_checked_modes ["modes"] (defScope s_checked_modes) := ⟨rfl, rfl, rfl, by decide +kernel, rfl, by decide +kernel, by decide +kernel⟩
abbrev s_linked_sites : Stmt := top 27
abbrev N_linked_sites : List Str := ["many", "links", "near", "at", "link", "one", "other", "_", "row"]
theorem sc_linked_sites : FnScope N_linked_sites ["many", "links"] (defScope s_linked_sites) := ⟨rfl, rfl, rfl, by decide +kernel, rfl, by decide +kernel, by decide +kernel⟩
abbrev s_can_link : Stmt := top 28
abbrev N_can_link : List Str := ["near", "link", "one", "other"]
theorem sc_can_link : FnScope N_can_link ["near", "link"] (defScope s_can_link) := ⟨rfl, rfl, rfl, by decide +kernel, rfl, by decide +kernel, by decide +kernel⟩
abbrev s__law_draw : Stmt := top 30
abbrev N__law_draw : List Str := ["script", "salt", "cells", "blend", "cell"]
theorem sc__law_draw : FnScope N__law_draw ["script", "salt"] (defScope s__law_draw) := ⟨rfl, rfl, rfl, by decide +kernel, rfl, by decide +kernel, by decide +kernel⟩
abbrev s__law_any : Stmt := top 31
abbrev N__law_any : List Str := ["deal", "bound", "rest"]
theorem sc__law_any : FnScope N__law_any ["deal", "bound"] (defScope s__law_any) := ⟨rfl, rfl, rfl, by decide +kernel, rfl, by decide +kernel, by decide +kernel⟩
abbrev s__law_of : Stmt := top 32
abbrev N__law_of : List Str := ["deal", "some"]
theorem sc__law_of : FnScope N__law_of ["deal", "some"] (defScope s__law_of) := ⟨rfl, rfl, rfl, by decide +kernel, rfl, by decide +kernel, by decide +kernel⟩
abbrev s__law_links : Stmt := top 33
abbrev N__law_links : List Str := ["deal", "many", "form", "links", "most", "steps", "one", "step", "other", "met", "site", "link"]
theorem sc__law_links : FnScope N__law_links ["deal", "many"] (defScope s__law_links) := ⟨rfl, rfl, rfl, by decide +kernel, rfl, by decide +kernel, by decide +kernel⟩
abbrev s__law_network : Stmt := top 34
abbrev N__law_network : List Str := ["deal", "kinds", "many", "start", "turn", "modes", "at"]
theorem sc__law_network : FnScope N__law_network ["deal", "kinds", "many"] (defScope s__law_network) := ⟨rfl, rfl, rfl, by decide +kernel, rfl, by decide +kernel, by decide +kernel⟩
abbrev s__law_views : Stmt := top 35
abbrev N__law_views : List Str := ["modes", "links", "found", "site", "mode", "near", "one", "other"]
theorem sc__law_views : FnScope N__law_views ["modes", "links"] (defScope s__law_views) := ⟨rfl, rfl, rfl, by decide +kernel, rfl, by decide +kernel, by decide +kernel⟩
abbrev s__law_number : Stmt := top 36
abbrev N__law_number : List Str := ["deal"]
theorem sc__law_number : FnScope N__law_number ["deal"] (defScope s__law_number) := ⟨rfl, rfl, rfl, by decide +kernel, rfl, by decide +kernel, by decide +kernel⟩
abbrev s__law_weighing : Stmt := top 37
abbrev N__law_weighing : List Str := ["deal", "kinds", "one", "links", "rows", "same", "form", "other", "number", "row", "many", "mode"]
theorem sc__law_weighing : FnScope N__law_weighing ["deal", "kinds"] (defScope s__law_weighing) := ⟨rfl, rfl, rfl, by decide +kernel, rfl, by decide +kernel, by decide +kernel⟩
abbrev s__law_weight : Stmt := top 38
abbrev N__law_weight : List Str := ["weighing", "modes", "links", "found", "mode", "row", "one", "other"]
theorem sc__law_weight : FnScope N__law_weight ["weighing", "modes", "links"] (defScope s__law_weight) := ⟨rfl, rfl, rfl, by decide +kernel, rfl, by decide +kernel, by decide +kernel⟩
abbrev s__law_spoilt : Stmt := top 39
abbrev N__law_spoilt : List Str := ["deal", "kinds", "weighing", "links", "rows", "one", "many", "form", "bad", "row", "line", "at"]
theorem sc__law_spoilt : FnScope N__law_spoilt ["deal", "kinds", "weighing"] (defScope s__law_spoilt) := ⟨rfl, rfl, rfl, by decide +kernel, rfl, by decide +kernel, by decide +kernel⟩
abbrev s__law_kinds_right : Stmt := top 40
abbrev N__law_kinds_right : List Str := ["deal", "kinds", "weighing", "value", "due", "many"]
theorem sc__law_kinds_right : FnScope N__law_kinds_right ["deal", "kinds", "weighing"] (defScope s__law_kinds_right) := ⟨rfl, rfl, rfl, by decide +kernel, rfl, by decide +kernel, by decide +kernel⟩
abbrev s__law_room : Stmt := top 41
abbrev N__law_room : List Str := ["weighing", "modes", "links", "row", "least", "found", "mode"]
theorem sc__law_room : FnScope N__law_room ["weighing", "modes", "links"] (defScope s__law_room) := ⟨rfl, rfl, rfl, by decide +kernel, rfl, by decide +kernel, by decide +kernel⟩
abbrev s__law_network_right : Stmt := top 42
abbrev N__law_network_right : List Str := ["weighing", "modes", "links", "network"]
theorem sc__law_network_right : FnScope N__law_network_right ["weighing", "modes", "links"] (defScope s__law_network_right) := ⟨rfl, rfl, rfl, by decide +kernel, rfl, by decide +kernel, by decide +kernel⟩
abbrev s__law_star_right : Stmt := top 43
abbrev N__law_star_right : List Str := ["weighing", "mode", "row", "to", "added", "links", "ahead", "at"]
theorem sc__law_star_right : FnScope N__law_star_right ["weighing", "mode", "row", "to", "added"] (defScope s__law_star_right) := ⟨rfl, rfl, rfl, by decide +kernel, rfl, by decide +kernel, by decide +kernel⟩
abbrev s_law : Stmt := top 44
abbrev N_law : List Str := ["script", "deal", "turn", "kinds", "modes", "links", "weighing", "step", "site", "mode", "row", "to", "after", "added"]
theorem sc_law : FnScope N_law ["script"] (defScope s_law) := ⟨rfl, rfl, rfl, by decide +kernel, rfl, by decide +kernel, by decide +kernel⟩
abbrev s_Network_init : Stmt := inClass (top 25) 0
abbrev N_Network_init : List Str := ["self", "modes", "links", "one", "near", "other"]
theorem sc_Network_init : FnScope N_Network_init ["self", "modes", "links"] (defScope s_Network_init) := ⟨rfl, rfl, rfl, by decide +kernel, rfl, by decide +kernel, by decide +kernel⟩
abbrev s_Network_eq : Stmt := inClass (top 25) 1
abbrev N_Network_eq : List Str := ["self", "other"]
theorem sc_Network_eq : FnScope N_Network_eq ["self", "other"] (defScope s_Network_eq) := ⟨rfl, rfl, rfl, by decide +kernel, rfl, by decide +kernel, by decide +kernel⟩
abbrev s_Network_neighbours : Stmt := inClass (top 25) 2
abbrev N_Network_neighbours : List Str := ["self", "at"]
theorem sc_Network_neighbours : FnScope N_Network_neighbours ["self", "at"] (defScope s_Network_neighbours) := ⟨rfl, rfl, rfl, by decide +kernel, rfl, by decide +kernel, by decide +kernel⟩
abbrev s_Network_view : Stmt := inClass (top 25) 3
abbrev N_Network_view : List Str := ["self", "at", "other"]
theorem sc_Network_view : FnScope N_Network_view ["self", "at"] (defScope s_Network_view) := ⟨rfl, rfl, rfl, by decide +kernel, rfl, by decide +kernel, by decide +kernel⟩
abbrev s_Network_site_views : Stmt := inClass (top 25) 4
abbrev N_Network_site_views : List Str := ["self", "at"]
theorem sc_Network_site_views : FnScope N_Network_site_views ["self"] (defScope s_Network_site_views) := ⟨rfl, rfl, rfl, by decide +kernel, rfl, by decide +kernel, by decide +kernel⟩
/-- what the top must have -/
structure TX (K : PySem.W.Frag) (mg : Str → Option Value) where
  f_is_integer : Addr
  d_is_integer : FuncData
  F_is_integer : Fun K "is_integer" "is_integer" s_is_integer f_is_integer d_is_integer
  m_is_integer : mg "is_integer" = some (.ref f_is_integer)
  f_is_number : Addr
  d_is_number : FuncData
  F_is_number : Fun K "is_number" "is_number" s_is_number f_is_number d_is_number
  m_is_number : mg "is_number" = some (.ref f_is_number)
  f_is_below : Addr
  d_is_below : FuncData
  F_is_below : Fun K "is_below" "is_below" s_is_below f_is_below d_is_below
  m_is_below : mg "is_below" = some (.ref f_is_below)
  f_is_sequence : Addr
  d_is_sequence : FuncData
  F_is_sequence : Fun K "is_sequence" "is_sequence" s_is_sequence f_is_sequence d_is_sequence
  m_is_sequence : mg "is_sequence" = some (.ref f_is_sequence)
  f_is_tuple_of : Addr
  d_is_tuple_of : FuncData
  F_is_tuple_of : Fun K "is_tuple_of" "is_tuple_of" s_is_tuple_of f_is_tuple_of d_is_tuple_of
  m_is_tuple_of : mg "is_tuple_of" = some (.ref f_is_tuple_of)
  f_is_mode : Addr
  d_is_mode : FuncData
  F_is_mode : Fun K "is_mode" "is_mode" s_is_mode f_is_mode d_is_mode
  m_is_mode : mg "is_mode" = some (.ref f_is_mode)
  f_are_neighbours : Addr
  d_are_neighbours : FuncData
  F_are_neighbours : Fun K "are_neighbours" "are_neighbours" s_are_neighbours f_are_neighbours d_are_neighbours
  m_are_neighbours : mg "are_neighbours" = some (.ref f_are_neighbours)
  f_made_view : Addr
  d_made_view : FuncData
  F_made_view : Fun K "made_view" "made_view" s_made_view f_made_view d_made_view
  m_made_view : mg "made_view" = some (.ref f_made_view)
  f_is_weighing : Addr
  d_is_weighing : FuncData
  F_is_weighing : Fun K "is_weighing" "is_weighing" s_is_weighing f_is_weighing d_is_weighing
  m_is_weighing : mg "is_weighing" = some (.ref f_is_weighing)
  f_are_rows : Addr
  d_are_rows : FuncData
  F_are_rows : Fun K "are_rows" "are_rows" s_are_rows f_are_rows d_are_rows
  m_are_rows : mg "are_rows" = some (.ref f_are_rows)
  f_is_even_table : Addr
  d_is_even_table : FuncData
  F_is_even_table : Fun K "is_even_table" "is_even_table" s_is_even_table f_is_even_table d_is_even_table
  m_is_even_table : mg "is_even_table" = some (.ref f_is_even_table)
  f_weight : Addr
  d_weight : FuncData
  F_weight : Fun K "weight" "weight" s_weight f_weight d_weight
  m_weight : mg "weight" = some (.ref f_weight)
  f_effect : Addr
  d_effect : FuncData
  F_effect : Fun K "effect" "effect" s_effect f_effect d_effect
  m_effect : mg "effect" = some (.ref f_effect)
  f_room : Addr
  d_room : FuncData
  F_room : Fun K "room" "room" s_room f_room d_room
  m_room : mg "room" = some (.ref f_room)
  f_checked_modes : Addr
  d_checked_modes : FuncData
  F_checked_modes : Fun K "checked_modes" "checked_modes" s_checked_modes f_checked_modes d_checked_modes
  m_checked_modes : mg "checked_modes" = some (.ref f_checked_modes)
  f_linked_sites : Addr
  d_linked_sites : FuncData
  F_linked_sites : Fun K "linked_sites" "linked_sites" s_linked_sites f_linked_sites d_linked_sites
  m_linked_sites : mg "linked_sites" = some (.ref f_linked_sites)
  f_can_link : Addr
  d_can_link : FuncData
  F_can_link : Fun K "can_link" "can_link" s_can_link f_can_link d_can_link
  m_can_link : mg "can_link" = some (.ref f_can_link)
  f__law_draw : Addr
  d__law_draw : FuncData
  F__law_draw : Fun K "_law_draw" "_law_draw" s__law_draw f__law_draw d__law_draw
  m__law_draw : mg "_law_draw" = some (.ref f__law_draw)
  f__law_any : Addr
  d__law_any : FuncData
  F__law_any : Fun K "_law_any" "_law_any" s__law_any f__law_any d__law_any
  m__law_any : mg "_law_any" = some (.ref f__law_any)
  f__law_of : Addr
  d__law_of : FuncData
  F__law_of : Fun K "_law_of" "_law_of" s__law_of f__law_of d__law_of
  m__law_of : mg "_law_of" = some (.ref f__law_of)
  f__law_links : Addr
  d__law_links : FuncData
  F__law_links : Fun K "_law_links" "_law_links" s__law_links f__law_links d__law_links
  m__law_links : mg "_law_links" = some (.ref f__law_links)
  f__law_network : Addr
  d__law_network : FuncData
  F__law_network : Fun K "_law_network" "_law_network" s__law_network f__law_network d__law_network
  m__law_network : mg "_law_network" = some (.ref f__law_network)
  f__law_views : Addr
  d__law_views : FuncData
  F__law_views : Fun K "_law_views" "_law_views" s__law_views f__law_views d__law_views
  m__law_views : mg "_law_views" = some (.ref f__law_views)
  f__law_number : Addr
  d__law_number : FuncData
  F__law_number : Fun K "_law_number" "_law_number" s__law_number f__law_number d__law_number
  m__law_number : mg "_law_number" = some (.ref f__law_number)
  f__law_weighing : Addr
  d__law_weighing : FuncData
  F__law_weighing : Fun K "_law_weighing" "_law_weighing" s__law_weighing f__law_weighing d__law_weighing
  m__law_weighing : mg "_law_weighing" = some (.ref f__law_weighing)
  f__law_weight : Addr
  d__law_weight : FuncData
  F__law_weight : Fun K "_law_weight" "_law_weight" s__law_weight f__law_weight d__law_weight
  m__law_weight : mg "_law_weight" = some (.ref f__law_weight)
  f__law_spoilt : Addr
  d__law_spoilt : FuncData
  F__law_spoilt : Fun K "_law_spoilt" "_law_spoilt" s__law_spoilt f__law_spoilt d__law_spoilt
  m__law_spoilt : mg "_law_spoilt" = some (.ref f__law_spoilt)
  f__law_kinds_right : Addr
  d__law_kinds_right : FuncData
  F__law_kinds_right : Fun K "_law_kinds_right" "_law_kinds_right" s__law_kinds_right f__law_kinds_right d__law_kinds_right
  m__law_kinds_right : mg "_law_kinds_right" = some (.ref f__law_kinds_right)
  f__law_room : Addr
  d__law_room : FuncData
  F__law_room : Fun K "_law_room" "_law_room" s__law_room f__law_room d__law_room
  m__law_room : mg "_law_room" = some (.ref f__law_room)
  f__law_network_right : Addr
  d__law_network_right : FuncData
  F__law_network_right : Fun K "_law_network_right" "_law_network_right" s__law_network_right f__law_network_right d__law_network_right
  m__law_network_right : mg "_law_network_right" = some (.ref f__law_network_right)
  f__law_star_right : Addr
  d__law_star_right : FuncData
  F__law_star_right : Fun K "_law_star_right" "_law_star_right" s__law_star_right f__law_star_right d__law_star_right
  m__law_star_right : mg "_law_star_right" = some (.ref f__law_star_right)
  f_law : Addr
  d_law : FuncData
  F_law : Fun K "law" "law" s_law f_law d_law
  m_law : mg "law" = some (.ref f_law)
  n_int : mg "int" = none
  n_bool : mg "bool" = none
  n_abs : mg "abs" = none
  n_len : mg "len" = none
  n_min : mg "min" = none
  n_max : mg "max" = none
  n_sorted : mg "sorted" = none
  n_tuple : mg "tuple" = none
  n_list : mg "list" = none
  n_range : mg "range" = none
  n_repr : mg "repr" = none
  n_isinstance : mg "isinstance" = none
  n_enumerate : mg "enumerate" = none
  n_all : mg "all" = none
  n_sum : mg "sum" = none
  t_MOST_MODES : Tok
  m_MOST_MODES : mg "MOST_MODES" = some (.int 4 t_MOST_MODES)
  t_MOST_NEIGHBOURS : Tok
  m_MOST_NEIGHBOURS : mg "MOST_NEIGHBOURS" = some (.int 4 t_MOST_NEIGHBOURS)
  c_InvalidNetwork : Addr
  i_InvalidNetwork : Addr
  E_InvalidNetwork : PySem.ErrX.ErrTxt K mg "InvalidNetwork" "InvalidNetwork.__init__" c_InvalidNetwork i_InvalidNetwork
  c_InvalidView : Addr
  i_InvalidView : Addr
  E_InvalidView : PySem.ErrX.ErrTxt K mg "InvalidView" "InvalidView.__init__" c_InvalidView i_InvalidView
  c_InvalidQuestion : Addr
  i_InvalidQuestion : Addr
  E_InvalidQuestion : PySem.ErrX.ErrTxt K mg "InvalidQuestion" "InvalidQuestion.__init__" c_InvalidQuestion i_InvalidQuestion
  c_Network : Addr
  m_Network : mg "Network" = some (.ref c_Network)
  C_Network : Cls K c_Network
  A_Network_modes : NoAttr K c_Network "modes"
  A_Network__near : NoAttr K c_Network "_near"
  A_Network_links : NoAttr K c_Network "links"
  f_Network_init : Addr
  d_Network_init : FuncData
  F_Network_init : Fun K "__init__" "Network.__init__" s_Network_init f_Network_init d_Network_init
  f_Network_eq : Addr
  d_Network_eq : FuncData
  F_Network_eq : Fun K "__eq__" "Network.__eq__" s_Network_eq f_Network_eq d_Network_eq
  f_Network_neighbours : Addr
  d_Network_neighbours : FuncData
  F_Network_neighbours : Fun K "neighbours" "Network.neighbours" s_Network_neighbours f_Network_neighbours d_Network_neighbours
  H_Network_neighbours : Meth K c_Network "neighbours" f_Network_neighbours
  f_Network_view : Addr
  d_Network_view : FuncData
  F_Network_view : Fun K "view" "Network.view" s_Network_view f_Network_view d_Network_view
  H_Network_view : Meth K c_Network "view" f_Network_view
  f_Network_site_views : Addr
  d_Network_site_views : FuncData
  F_Network_site_views : Fun K "site_views" "Network.site_views" s_Network_site_views f_Network_site_views d_Network_site_views
  H_Network_site_views : Meth K c_Network "site_views" f_Network_site_views
  M_Network : Mk K c_Network f_Network_init
  I_Network : IsCls K c_Network
  O_Network : OwnC K c_Network f_Network_eq
section
variable {K : PySem.W.Frag} {mg : Str → Option Value} (T : TX K mg)
theorem TX.b_is_integer : Binds K T.d_is_integer ["value"] [] := T.F_is_integer.binds fun _ _ _ _ _ _ us hl => match us, hl with | [_], _ => rfl
theorem TX.b_is_number : Binds K T.d_is_number ["value"] [] := T.F_is_number.binds fun _ _ _ _ _ _ us hl => match us, hl with | [_], _ => rfl
theorem TX.b_is_below : Binds K T.d_is_below ["value", "limit"] [] := T.F_is_below.binds fun _ _ _ _ _ _ us hl => match us, hl with | [_, _], _ => rfl
theorem TX.b_is_sequence : Binds K T.d_is_sequence ["value"] [] := T.F_is_sequence.binds fun _ _ _ _ _ _ us hl => match us, hl with | [_], _ => rfl
theorem TX.b_is_tuple_of : Binds K T.d_is_tuple_of ["value", "length"] [] := T.F_is_tuple_of.binds fun _ _ _ _ _ _ us hl => match us, hl with | [_, _], _ => rfl
theorem TX.b_is_mode : Binds K T.d_is_mode ["value"] [] := T.F_is_mode.binds fun _ _ _ _ _ _ us hl => match us, hl with | [_], _ => rfl
theorem TX.b_are_neighbours : Binds K T.d_are_neighbours ["value"] [] := T.F_are_neighbours.binds fun _ _ _ _ _ _ us hl => match us, hl with | [_], _ => rfl
theorem TX.b_made_view : Binds K T.d_made_view ["mode", "neighbours"] [] := T.F_made_view.binds fun _ _ _ _ _ _ us hl => match us, hl with | [_, _], _ => rfl
theorem TX.b_is_weighing : Binds K T.d_is_weighing ["modes", "value"] [] := T.F_is_weighing.binds fun _ _ _ _ _ _ us hl => match us, hl with | [_, _], _ => rfl
theorem TX.b_are_rows : Binds K T.d_are_rows ["modes", "many", "value"] [] := T.F_are_rows.binds fun _ _ _ _ _ _ us hl => match us, hl with | [_, _, _], _ => rfl
theorem TX.b_is_even_table : Binds K T.d_is_even_table ["modes", "value"] [] := T.F_is_even_table.binds fun _ _ _ _ _ _ us hl => match us, hl with | [_, _], _ => rfl
theorem TX.b_weight : Binds K T.d_weight ["weighing", "network"] [] := T.F_weight.binds fun _ _ _ _ _ _ us hl => match us, hl with | [_, _], _ => rfl
theorem TX.b_effect : Binds K T.d_effect ["weighing", "change"] [] := T.F_effect.binds fun _ _ _ _ _ _ us hl => match us, hl with | [_, _], _ => rfl
theorem TX.b_room : Binds K T.d_room ["weighing", "network"] [] := T.F_room.binds fun _ _ _ _ _ _ us hl => match us, hl with | [_, _], _ => rfl
theorem TX.b_checked_modes : Binds K T.d_checked_modes ["modes"] [] := T.F_checked_modes.binds fun _ _ _ _ _ _ us hl => match us, hl with | [_], _ => rfl
theorem TX.b_linked_sites : Binds K T.d_linked_sites ["many", "links"] [] := T.F_linked_sites.binds fun _ _ _ _ _ _ us hl => match us, hl with | [_, _], _ => rfl
theorem TX.b_can_link : Binds K T.d_can_link ["near", "link"] [] := T.F_can_link.binds fun _ _ _ _ _ _ us hl => match us, hl with | [_, _], _ => rfl
theorem TX.b__law_draw : Binds K T.d__law_draw ["script", "salt"] [] := T.F__law_draw.binds fun _ _ _ _ _ _ us hl => match us, hl with | [_, _], _ => rfl
theorem TX.b__law_any : Binds K T.d__law_any ["deal", "bound"] [] := T.F__law_any.binds fun _ _ _ _ _ _ us hl => match us, hl with | [_, _], _ => rfl
theorem TX.b__law_of : Binds K T.d__law_of ["deal", "some"] [] := T.F__law_of.binds fun _ _ _ _ _ _ us hl => match us, hl with | [_, _], _ => rfl
theorem TX.b__law_links : Binds K T.d__law_links ["deal", "many"] [] := T.F__law_links.binds fun _ _ _ _ _ _ us hl => match us, hl with | [_, _], _ => rfl
theorem TX.b__law_network : Binds K T.d__law_network ["deal", "kinds", "many"] [] := T.F__law_network.binds fun _ _ _ _ _ _ us hl => match us, hl with | [_, _, _], _ => rfl
theorem TX.b__law_views : Binds K T.d__law_views ["modes", "links"] [] := T.F__law_views.binds fun _ _ _ _ _ _ us hl => match us, hl with | [_, _], _ => rfl
theorem TX.b__law_number : Binds K T.d__law_number ["deal"] [] := T.F__law_number.binds fun _ _ _ _ _ _ us hl => match us, hl with | [_], _ => rfl
theorem TX.b__law_weighing : Binds K T.d__law_weighing ["deal", "kinds"] [] := T.F__law_weighing.binds fun _ _ _ _ _ _ us hl => match us, hl with | [_, _], _ => rfl
theorem TX.b__law_weight : Binds K T.d__law_weight ["weighing", "modes", "links"] [] := T.F__law_weight.binds fun _ _ _ _ _ _ us hl => match us, hl with | [_, _, _], _ => rfl
theorem TX.b__law_spoilt : Binds K T.d__law_spoilt ["deal", "kinds", "weighing"] [] := T.F__law_spoilt.binds fun _ _ _ _ _ _ us hl => match us, hl with | [_, _, _], _ => rfl
theorem TX.b__law_kinds_right : Binds K T.d__law_kinds_right ["deal", "kinds", "weighing"] [] := T.F__law_kinds_right.binds fun _ _ _ _ _ _ us hl => match us, hl with | [_, _, _], _ => rfl
theorem TX.b__law_room : Binds K T.d__law_room ["weighing", "modes", "links"] [] := T.F__law_room.binds fun _ _ _ _ _ _ us hl => match us, hl with | [_, _, _], _ => rfl
theorem TX.b__law_network_right : Binds K T.d__law_network_right ["weighing", "modes", "links"] [] := T.F__law_network_right.binds fun _ _ _ _ _ _ us hl => match us, hl with | [_, _, _], _ => rfl
theorem TX.b__law_star_right : Binds K T.d__law_star_right ["weighing", "mode", "row", "to", "added"] [] := T.F__law_star_right.binds fun _ _ _ _ _ _ us hl => match us, hl with | [_, _, _, _, _], _ => rfl
theorem TX.b_law : Binds K T.d_law ["script"] [] := T.F_law.binds fun _ _ _ _ _ _ us hl => match us, hl with | [_], _ => rfl
theorem TX.b_Network_init : Binds K T.d_Network_init ["self", "modes", "links"] [] := T.F_Network_init.binds fun _ _ _ _ _ _ us hl => match us, hl with | [_, _, _], _ => rfl
theorem TX.b_Network_eq : Binds K T.d_Network_eq ["self", "other"] [] := T.F_Network_eq.binds fun _ _ _ _ _ _ us hl => match us, hl with | [_, _], _ => rfl
theorem TX.b_Network_neighbours : Binds K T.d_Network_neighbours ["self", "at"] [] := T.F_Network_neighbours.binds fun _ _ _ _ _ _ us hl => match us, hl with | [_, _], _ => rfl
theorem TX.b_Network_view : Binds K T.d_Network_view ["self", "at"] [] := T.F_Network_view.binds fun _ _ _ _ _ _ us hl => match us, hl with | [_, _], _ => rfl
theorem TX.b_Network_site_views : Binds K T.d_Network_site_views ["self"] [] := T.F_Network_site_views.binds fun _ _ _ _ _ _ us hl => match us, hl with | [_], _ => rfl
end
/-! ### the deal -/
structure DealAt (H : Hp) (p q : Addr) (ns : List Int) (b : Int) : Prop where
  hp : H p = some (.lst [.ref q, .int b])
  hq : H q = some (.lst (ns.map V.int))
  ne : p ≠ q
  nn : ∀ n ∈ ns, 0 ≤ n
  len : ns.length ≤ 48
  b0 : 0 ≤ b
  b1 : b < 2147483647
def Deal (H : Hp) (p q : Addr) : Prop := ∃ ns b, DealAt H p q ns b
/-- all but the deal's two lists stays -/
def Fix (p q : Addr) (H H' : Hp) : Prop := ∀ a o, a ≠ p → a ≠ q → H a = some o → H' a = some o
theorem Fix.refl (p q : Addr) (H : Hp) : Fix p q H H := fun _ _ _ _ h => h
theorem Fix.trans {p q : Addr} {H H1 H2 : Hp} (a : Fix p q H H1) (b : Fix p q H1 H2) : Fix p q H H2 := fun c o h1 h2 h => b c o h1 h2 (a c o h1 h2 h)
theorem Fix.same {p q : Addr} {H H' : Hp} (s : Same H H') : Fix p q H H' := fun c o _ _ h => s c o h
theorem Fix.new {p q a : Addr} {H : Hp} {o : HO} (n : H a = none) : Fix p q H (upd H a o) := fun c u _ _ h => by
  rw [upd_ne (fun z => by rw [z, n] at h; cases h)]; exact h
theorem Fix.p {p q : Addr} {H : Hp} {o : HO} : Fix p q H (upd H p o) := fun c u h1 _ h => by rw [upd_ne h1]; exact h
theorem Fix.q {p q : Addr} {H : Hp} {o : HO} : Fix p q H (upd H q o) := fun c u _ h2 h => by rw [upd_ne h2]; exact h
theorem DealAt.new {H : Hp} {p q a : Addr} {ns : List Int} {b : Int} {o : HO} (d : DealAt H p q ns b) (n : H a = none) : DealAt (upd H a o) p q ns b :=
  ⟨by rw [upd_ne (fun z => by have := d.hp; rw [z, n] at this; cases this)]; exact d.hp,
   by rw [upd_ne (fun z => by have := d.hq; rw [z, n] at this; cases this)]; exact d.hq, d.ne, d.nn, d.len, d.b0, d.b1⟩
theorem DealAt.toq {H : Hp} {p q : Addr} {ns ms : List Int} {b : Int} (d : DealAt H p q ns b) (hn : ∀ n ∈ ms, 0 ≤ n) (hl : ms.length ≤ 48) :
    DealAt (upd H q (.lst (ms.map V.int))) p q ms b :=
  ⟨by rw [upd_ne d.ne]; exact d.hp, upd_same, d.ne, hn, hl, d.b0, d.b1⟩
theorem DealAt.top {H : Hp} {p q : Addr} {ns : List Int} {b c : Int} (d : DealAt H p q ns b) (h0 : 0 ≤ c) (h1 : c < 2147483647) :
    DealAt (upd H p (.lst [.ref q, .int c])) p q ns c :=
  ⟨upd_same, by rw [upd_ne (Ne.symm d.ne)]; exact d.hq, d.ne, d.nn, d.len, h0, h1⟩
theorem Deal.same {H H' : Hp} {p q : Addr} (d : Deal H p q) (s : Same H H') : Deal H' p q := by
  obtain ⟨ns, b, d⟩ := d
  exact ⟨ns, b, s _ _ d.hp, s _ _ d.hq, d.ne, d.nn, d.len, d.b0, d.b1⟩
def spAny : Sp := fun vs H Q _ => ∃ (p q : Addr) (m : Int), vs = [.ref p, .int m] ∧ Deal H p q ∧ 0 < m ∧ m < 1073741824 ∧
  ∀ H' i, Deal H' p q → Fix p q H H' → 0 ≤ i → i < m → Q (.int i) H'
def spOf (K : PySem.W.Frag) : Sp := fun vs H Q _ => ∃ (p q a : Addr) (xs : List V), vs = [.ref p, .ref a] ∧ Deal H p q ∧ a ≠ p ∧ a ≠ q ∧ H a = some (.lst xs) ∧
  0 < xs.length ∧ xs.length < 1000 ∧ ∀ H' x, x ∈ xs → Deal H' p q → Fix p q H H' → Q x H'
/-! data of a list of ints -/
theorem dpAll_ints (K : PySem.W.Frag) (H : Hp) : ∀ ns : List Int, DpAll K H (ns.map V.int) (ns.map PyData.int)
  | [] => .nil
  | n :: ns => .cons (.int n) (dpAll_ints K H ns)
theorem dp_ints {K : PySem.W.Frag} {H : Hp} {a : Addr} {ns : List Int} (h : H a = some (.lst (ns.map V.int))) : Dp K H (.ref a) (.list (ns.map PyData.int)) :=
  .lst (SqL.of h) (dpAll_ints K H ns)
theorem lay_ints : ∀ ns : List Int, PyData.canLayAll0 (ns.map PyData.int) = true
  | [] => rfl
  | n :: ns => by
    show (PyData.canLay0 (.int n) && PyData.canLayAll0 (ns.map PyData.int)) = true
    rw [lay_ints ns]; rfl
theorem dep_ints : ∀ ns : List Int, PyData.depthAll (ns.map PyData.int) ≤ 1
  | [] => by decide
  | n :: ns => by
    have h := dep_ints ns
    show max (PyData.depth (.int n)) (PyData.depthAll (ns.map PyData.int)) ≤ 1
    have h1 : PyData.depth (.int n) = 0 := rfl
    rw [h1]; omega
theorem sh_ints (ns : List Int) : SeqAt.shaped (.list (ns.map PyData.int)) = true := by
  have h := dep_ints ns
  have h1 : PyData.depth (.list (ns.map PyData.int)) = PyData.depthAll (ns.map PyData.int) + 1 := rfl
  unfold SeqAt.shaped
  have h2 : PyData.canLay0 (.list (ns.map PyData.int)) = PyData.canLayAll0 (ns.map PyData.int) := rfl
  rw [h2, lay_ints, h1, Bool.true_and]
  exact decide_eq_true (by omega)
theorem ne_nil_ints (ns : List Int) : PyData.eqv (.list (ns.map PyData.int)) (.list ([] : List PyData)) = decide (ns = []) := by
  cases ns <;> rfl
section
variable {P : Program} {w : World} {K : PySem.W.Frag} {mg : Str → Option Value} {base : Heap}
theorem ok_any {f : Addr} {fd : FuncData} (F : Fun K "_law_any" "_law_any" s__law_any f fd) (gi : mg "int" = none) : FnOk P w K mg base CX0 1 f fd ["deal", "bound"] spAny := by
  refine F.ok sc__law_any (fun vs H Q E h => ?_) fun cdv A outer s H vs Q E hr h => ⟨_, 
    pss_cons (ps_while PassesOwn.never (PW.pt (pw_and (pt_cmpR (op_neD hr.units) (pe_ix ix_list (pv 0) pe_int (fun _ _ => rfl)) (pe_lst pa_nil) (nomark _))
        (pw_and1 (pt_cmpR op_eq (pe_ix ix_list (pe_ix ix_list (pv 0) pe_int (fun _ _ => rfl)) (pe_un un_neg pe_int) (fun _ _ => rfl)) pe_int (nomark _)))))
      (pss_one (ps_expr (pe_bm0 PySem.F.plainAttrs_list PySem.F.slot_list_pop PySem.F.type_list_pop mt_pop (pe_ix ix_list (pv 0) pe_int (fun _ _ => rfl))))))
    (pss_cons (ps_if (pt_cmpR (op_neD hr.units) (pe_ix ix_list (pv 0) pe_int (fun _ _ => rfl)) (pe_lst pa_nil) (nomark _))
      (pss_cons (ps_set (i := 2) sc__law_any.nd rfl (.inl rfl) (pe_callTy call_int1 (by rfl) gi (by decide +kernel)
          (pa_cons (pe_bm0 PySem.F.plainAttrs_list PySem.F.slot_list_pop PySem.F.type_list_pop mt_pop (pe_ix ix_list (pv 0) pe_int (fun _ _ => rfl))) pa_nil)))
        (pss_cons (ps_expr (pe_bm PySem.F.plainAttrs_list PySem.F.slot_list_append PySem.F.type_list_append mt_append (pe_ix ix_list (pv 0) pe_int (fun _ _ => rfl))
            (pa_cons (pe_op op_fdiv (pv 2) (pv 1)) pa_nil)))
          (pss_one (ps_ret (pe_op op_mod (pv 2) (pv 1)))))) pss_nil)
    (pss_cons (ps_asg (pe_op op_mod (pe_callTy call_int1 (by rfl) gi (by decide +kernel) (pa_cons (pe_op op_add (pe_op op_mul (pe_ix ix_list (pv 0) pe_int (fun _ _ => rfl)) pe_int) pe_int) pa_nil)) pe_int)
        (pg_sub (pv 0) pe_int set_list))
    (pss_one (ps_ret (pe_op op_mod (pe_callTy call_int1 (by rfl) gi (by decide +kernel) (pa_cons (pe_op op_fdiv (pe_ix ix_list (pv 0) pe_int (fun _ _ => rfl)) pe_int) pa_nil)) (pv 1)))))), ?_⟩
  · obtain ⟨p, q, m, rfl, _⟩ := h
    rfl
  · obtain ⟨p, q, m, rfl, ⟨ns, b, d⟩, hm0, hm1, hQ⟩ := h
    refine ⟨fun n σ H' => σ = L2.start ["deal", "bound", "rest"] [.ref p, .int m] ∧ ∃ ns b, DealAt H' p q ns b ∧ Fix p q H H' ∧ n = ns.length, ⟨_, rfl, ns, b, d, Fix.refl _ _ _, rfl⟩, ?_⟩
    rintro n σ H' ⟨rfl, ns, b, d, fx, rfl⟩
    have d1 : ∀ e, H' e = none → DealAt (upd H' e (.lst [])) p q ns b := fun e he => d.new he
    have qe : ∀ e, H' e = none → q ≠ e := fun e he z => by have := d.hq; rw [z, he] at this; cases this
    refine ⟨.ref p, rfl, p, [.ref q, .int b], 0, .ref q, rfl, rfl, SqL.of d.hp, rfl, by show 0 ≤ sizeLine; decide, fun e he => ?_⟩
    refine ⟨_, _, dp_ints (d1 e he).hq, .lst (ds := []) (SqL.of upd_same) .nil, sh_ints ns, by decide, _, rfl, ?_⟩
    rw [ne_nil_ints]
    have fx1 : Fix p q H (upd H' e (.lst [])) := fx.trans (Fix.new he)
    have D1 := d1 e he
    generalize hG : upd H' e (.lst []) = H1 at D1 fx1
    clear hG d d1 qe he fx
    rcases List.eq_nil_or_concat ns with hn | ⟨init, l, hn⟩
    · subst hn
      refine iteF ?_
      refine ⟨.ref p, rfl, p, [.ref q, .int b], 0, .ref q, rfl, rfl, SqL.of D1.hp, rfl, by show 0 ≤ sizeLine; decide, fun e he => ?_⟩
      refine ⟨_, _, dp_ints (D1.new he).hq, .lst (ds := []) (SqL.of upd_same) .nil, sh_ints [], by decide, _, rfl, ?_⟩
      rw [ne_nil_ints]
      refine iteF ?_
      have D2 := D1.new (o := .lst []) he
      have fx2 : Fix p q H (upd H1 e (.lst [])) := fx1.trans (Fix.new he)
      generalize upd H1 e (.lst []) = H2 at D2 fx2
      have D3 := D2.top (c := (b * 40693 + 71) % 2147483647) (Int.emod_nonneg _ (by decide)) (Int.emod_lt_of_pos _ (by decide))
      have fx3 : Fix p q H (upd H2 p (.lst [.ref q, .int ((b * 40693 + 71) % 2147483647)])) := fx2.trans Fix.p
      refine ⟨.ref p, rfl, p, [.ref q, .int b], 1, .int b, rfl, rfl, SqL.of D2.hp, rfl, b, 40693, rfl, rfl, .inr ⟨by decide, by decide⟩, ?_⟩
      refine ⟨_, _, rfl, rfl, .inl ⟨_, rfl, _, _, rfl, rfl, (by decide : (0 : Int) < 2147483647), ?_⟩⟩
      refine ⟨.ref p, rfl, p, [.ref q, .int b], 1, 1, rfl, rfl, D2.hp, rfl, ?_⟩
      refine ⟨.ref p, rfl, p, [.ref q, .int _], 1, .int _, rfl, rfl, SqL.of D3.hp, rfl, _, 64, rfl, rfl, ⟨by decide, by decide⟩, .inl ⟨_, rfl, .int m, rfl, _, m, rfl, rfl, hm0, ?_⟩⟩
      exact hQ _ _ ⟨_, _, D3⟩ fx3 (Int.emod_nonneg _ (by omega)) (Int.emod_lt_of_pos _ hm0)
    · have hn : ns = init ++ [l] := by simpa using hn
      subst hn
      have nz : decide (init ++ [l] = ([] : List Int)) = false := by simp
      rw [nz]
      refine iteT ?_
      have hml : (init ++ [l]).map V.int = init.map V.int ++ [V.int l] := by simp
      have hpop : (init.map V.int ++ [V.int l])[(init.map V.int ++ [V.int l]).length - 1]? = some (V.int l) := by simp
      have hdl : (init.map V.int ++ [V.int l]).dropLast = init.map V.int := by simp
      have l0 : 0 ≤ l := D1.nn l (by simp)
      have len := D1.len
      have len' : init.length + 1 ≤ 48 := by simpa using len
      have hq := D1.hq
      rw [hml] at hq
      refine ⟨.ref p, rfl, p, [.ref q, .int b], 0, .ref q, rfl, rfl, SqL.of D1.hp, rfl, 1, rfl, q, _, -1, V.int l, rfl, rfl, SqL.of hq, atI_last _ _, rfl, _, rfl, ?_⟩
      by_cases hl : l = 0
      · have e1 : decide (V.int l = V.int 0) = true := by rw [hl]; decide
        refine iteT' e1 ?_
        refine ⟨fun σ' H'' => σ' = L2.start ["deal", "bound", "rest"] [.ref p, .int m] ∧ ∃ ns b, DealAt H'' p q ns b ∧ Fix p q H H'' ∧ ns.length = init.length, fun σ' H'' ⟨e, ns, b, h1, h2, h3⟩ => ⟨_, by simpa [h3] using Nat.lt_succ_self init.length, e, ns, b, h1, h2, rfl⟩, ?_⟩
        refine ⟨.ref p, rfl, p, [.ref q, .int b], 0, .ref q, rfl, rfl, SqL.of D1.hp, rfl, .inl ⟨rfl, _, SqL.of hq⟩, q, _, .int l, rfl, rfl, hq, hpop, ?_⟩
        rw [hdl]
        exact ⟨rfl, init, b, D1.toq (fun n hn => D1.nn n (by simp [hn])) (by omega), fx1.trans Fix.q, rfl⟩
      · have e1 : decide (V.int l = V.int 0) = false := by simpa using hl
        refine iteF' e1 ?_
        refine ⟨.ref p, rfl, p, [.ref q, .int b], 0, .ref q, rfl, rfl, SqL.of D1.hp, rfl, by show 0 ≤ sizeLine; decide, fun e he => ?_⟩
        have D2 := D1.new (o := .lst []) he
        refine ⟨_, _, dp_ints D2.hq, .lst (ds := []) (SqL.of upd_same) .nil, sh_ints _, by decide, _, rfl, ?_⟩
        rw [ne_nil_ints, nz]
        refine iteT ?_
        have fx2 : Fix p q H (upd H1 e (.lst [])) := fx1.trans (Fix.new he)
        generalize upd H1 e (.lst []) = H2 at D2 fx2
        have hq2 := D2.hq
        rw [hml] at hq2
        have D3 : DealAt (upd H2 q (.lst (init.map V.int))) p q init b := D2.toq (fun n hn => D1.nn n (by simp [hn])) (by omega)
        have D4 : DealAt (upd (upd H2 q (.lst (init.map V.int))) q (.lst ((init ++ [l / m]).map V.int))) p q (init ++ [l / m]) b := D3.toq (fun n hn => by
          rcases List.mem_append.mp hn with h | h
          · exact D1.nn n (by simp [h])
          · rw [List.mem_singleton.mp h]; exact Int.ediv_nonneg l0 (by omega)) (by simpa using len')
        refine ⟨.ref p, rfl, p, [.ref q, .int b], 0, .ref q, rfl, rfl, SqL.of D2.hp, rfl, .inl ⟨rfl, _, SqL.of hq2⟩, q, _, .int l, rfl, rfl, hq2, hpop, .inl ⟨l, rfl, ?_⟩⟩
        rw [hdl]
        refine ⟨.ref p, rfl, p, [.ref q, .int b], 0, .ref q, rfl, rfl, SqL.of D3.hp, rfl, .inl ⟨rfl, _, SqL.of upd_same⟩, .int l, rfl, .int m, rfl, l, m, rfl, rfl, ⟨hm0, hm1⟩, q, _, _, rfl, rfl, upd_same, ?_, ?_⟩
        · rw [List.length_map]; exact Nat.lt_of_lt_of_le (by omega : init.length < 48) (by decide)
        have ha : init.map V.int ++ [V.int (l / m)] = (init ++ [l / m]).map V.int := by simp
        rw [ha]
        refine ⟨.int l, rfl, .int m, rfl, l, m, rfl, rfl, hm0, ?_⟩
        exact hQ _ _ ⟨_, _, D4⟩ (fx2.trans (Fix.q.trans Fix.q)) (Int.emod_nonneg _ (by omega)) (Int.emod_lt_of_pos _ hm0)
theorem ok_of {f fA : Addr} {fd fdA : FuncData} (F : Fun K "_law_of" "_law_of" s__law_of f fd) (FA : Fun K "_law_any" "_law_any" s__law_any fA fdA) (gA : mg "_law_any" = some (.ref fA))
    (gi : mg "int" = none) (gl : mg "len" = none) : FnOk P w K mg base CX0 2 f fd ["deal", "some"] (spOf K) := by
  refine F.ok sc__law_of (fun vs H Q E h => ?_) fun cdv A outer s H vs Q E hr h => ⟨_, pss_one (ps_ret (pe_ix ix_list (pv 1)
    (pe_call (ok_any FA gi) hr (by rfl) gA FA.kp (FA.binds fun _ _ _ _ _ _ us hl => match us, hl with | [_, _], _ => rfl) .nil pass0 (pa_cons (pv 0) (pa_cons (pe_callB call_len_seq (by rfl) gl (by decide +kernel) (by exact pa_cons (pv 1) pa_nil)) pa_nil))) (fun _ _ => rfl))), ?_⟩
  · obtain ⟨p, q, a, xs, rfl, _⟩ := h
    rfl
  · obtain ⟨p, q, a, xs, rfl, d, n1, n2, ha, h0, h1, hQ⟩ := h
    refine ⟨.ref a, rfl, .ref p, rfl, .ref a, rfl, a, xs, rfl, Or.inl (SqL.of ha), p, q, _, rfl, d, by omega, by omega, fun H' i d' fx i0 i1 => ?_⟩
    obtain ⟨n, rfl⟩ := Int.eq_ofNat_of_zero_le i0
    have hn : n < xs.length := by omega
    exact ⟨a, xs, n, xs[n], rfl, rfl, SqL.of (fx a _ n1 n2 ha), atI_nat (List.getElem?_eq_getElem hn), hQ H' _ (List.getElem_mem hn) d' fx⟩
end

def spDraw (K : PySem.W.Frag) : Sp := fun vs H Q _ => ∃ (a : Addr) (ns : List Int) (t : Int), vs = [.ref a, .int t] ∧ SqL K H a (ns.map V.int) ∧ 0 ≤ t ∧ t < 10000 ∧
  ∀ H' p q, Same H H' → H p = none → H q = none → Deal H' p q → Q (.ref p) H'
theorem cut48 (ns : List Int) : ∃ ms : List Int, cutV (ns.map V.int) none (some 48) = ms.map V.int ∧ ms.length ≤ 48 := by
  refine ⟨(ns.drop 0).take (HT.sIx ns.length ns.length (some 48) - 0), ?_, ?_⟩
  · unfold cutV
    rw [List.length_map, HT.sIx_none, List.map_take, List.map_drop]
  · rw [List.length_take]
    have : HT.sIx ns.length ns.length (some ((48 : Nat) : Int)) = min 48 ns.length := HT.sIx_nat _ _ 48
    have h2 : (some ((48 : Nat) : Int) : Option Int) = some 48 := rfl
    rw [h2] at this
    rw [this]
    omega
theorem Same.new {H : Hp} {a : Addr} {o : HO} (n : H a = none) : Same H (upd H a o) := fun b u h => by
  rw [upd_ne (fun z => by rw [z, n] at h; cases h)]; exact h
section
variable {P : Program} {w : World} {K : PySem.W.Frag} {mg : Str → Option Value} {base : Heap}
theorem ok_draw {f : Addr} {fd : FuncData} (F : Fun K "_law_draw" "_law_draw" s__law_draw f fd) (gi : mg "int" = none) (gab : mg "abs" = none) :
    FnOk P w K mg base CX0 1 f fd ["script", "salt"] (spDraw K) := by
  refine F.ok sc__law_draw (fun vs H Q E h => ?_) fun cdv A outer s H vs Q E hr h => ⟨_,
    pss_cons (ps_setLc (i := 2) (own := [("cell", 4)]) (g := gName 4) (tt := tYes) rfl sc__law_draw.nd rfl rfl (sw_true rfl rfl rfl (by decide +kernel)) (pi_list (pe_slice sl_list (pv 0) po_none (po_some pe_int)))
        (blkOk_by (N := ["script", "salt", "cells", "blend", "cell"]) (sc := defScope s__law_draw) (by decide +kernel)) (fun _ _ _ _ _ => pg_name (i := 4) sc__law_draw.nd rfl (Or.inl rfl)) (fun _ _ _ _ _ => pts_nil)
        (fun _ _ _ _ _ => pe_callB call_abs (by rfl) gab (by decide +kernel) (pa_cons (pe_callTy call_int1 (by rfl) gi (by decide +kernel) (pa_cons (pv 4) pa_nil)) pa_nil)))
    (pss_cons (ps_set (i := 3) sc__law_draw.nd rfl (.inl rfl) (pe_op op_add pe_int (pe_op op_mul pe_int (pv 1))))
    (pss_cons (ps_for PassesOwn.never rfl (pi_list (pv 2)) (pg_name (i := 4) sc__law_draw.nd rfl (Or.inl rfl))
      (pss_one (ps_set (i := 3) sc__law_draw.nd rfl (.inl rfl) (pe_op op_mod (pe_callTy call_int1 (by rfl) gi (by decide +kernel)
        (pa_cons (pe_op op_add (pe_op op_add (pe_op op_mul (pv 3) pe_int) (pe_op op_mod (pv 4) pe_int)) pe_int) pa_nil)) pe_int))))
    (pss_one (ps_ret (pe_lst (pa_cons (pe_revL (pe_lc (own := [("cell", 4)]) (g := gName 4) (by rfl) sc__law_draw.nd (pi_list (pv 2))
        (blkOk_by (own := [("cell", 4)]) (N := ["script", "salt", "cells", "blend", "cell"]) (sc := defScope s__law_draw) (by decide +kernel)) (fun _ _ _ _ _ => pg_name (i := 4) sc__law_draw.nd rfl (Or.inl rfl))
        (fun _ _ _ _ _ => pts_one (pt_cmpR op_ge (pv 4) (pe_op op_pow pe_int pe_int) (nomark _))) (fun _ _ _ _ _ => pv 4))) (pa_cons (pv 3) pa_nil))))))), ?_⟩
  · obtain ⟨a, ns, t, rfl, _⟩ := h
    rfl
  · obtain ⟨a, ns, t, rfl, ha, t0, t1, hQ⟩ := h
    obtain ⟨ms, hms, hlen⟩ := cut48 ns
    refine ⟨.ref a, rfl, 48, rfl, a, _, rfl, ha, fun c hc => ?_⟩
    rw [hms]
    have S1 : Same H (upd H c (.lst (ms.map V.int))) := Same.new hc
    have h1 : upd H c (.lst (ms.map V.int)) c = some (.lst (ms.map V.int)) := upd_same
    generalize upd H c (.lst (ms.map V.int)) = H1 at S1 h1
    refine ⟨c, rfl, ⟨_, SqL.of h1⟩, fun D hD => ?_⟩
    refine lc_list (xs := ms.map V.int) (fun i H' => Same H1 H' ∧ ∃ cs : List Int, H' D = some (.lst (cs.map V.int)) ∧ cs.length = i ∧ ∀ n ∈ cs, 0 ≤ n)
      ⟨Same.new hD, [], upd_same, rfl, by simp⟩ (fun i H' _ p => SqL.of (p.1 _ _ h1)) (fun i x H' hi p => ?_) (fun H' p => ?_)
    · obtain ⟨s1, cs, hc1, hl, h0⟩ := p
      have hi' := (List.getElem?_eq_some_iff.mp hi).1
      rw [List.length_map] at hi'
      rw [List.getElem?_map] at hi
      obtain ⟨n, _, rfl⟩ := Option.map_eq_some_iff.mp hi
      refine ⟨rfl, .int n, rfl, .inl ⟨n, rfl, n, rfl, cs.map V.int, hc1, ?_, ?_, cs ++ [if n < 0 then -n else n], ?_, ?_, ?_⟩⟩
      · rw [List.length_map]; exact Nat.lt_of_lt_of_le (by omega : cs.length < 48) (by decide)
      · exact fun b o h => by
          rw [upd_ne (fun z => ?_)]
          · exact s1 b o h
          · rw [z, hD] at h; cases h
      · rw [upd_same]; simp
      · simp [hl]
      · intro k hk
        rcases List.mem_append.mp hk with hk | hk
        · exact h0 k hk
        · rw [List.mem_singleton.mp hk]; split <;> omega
    · obtain ⟨s1, cs, hc1, hl, h0⟩ := p
      have hl : cs.length ≤ 48 := by rw [hl, List.length_map]; exact hlen
      have S2 := S1.trans s1
      have hDn : H D = none := S1.free hD
      refine ⟨.int t, rfl, 104729, t, rfl, rfl, .inl ⟨by decide, by decide⟩, 7919, _, rfl, rfl, ?_⟩
      refine ⟨.ref D, rfl, D, rfl, ⟨_, SqL.of hc1⟩, for_list (xs := cs.map V.int) (fun i σ H'' => H'' = H' ∧ ∃ b o, σ = [some (.ref a), some (.int t), some (.ref D), some (.int b), o] ∧ 0 ≤ b ∧ b < 2147483647)
        ⟨rfl, 7919 + 104729 * t, _, rfl, by omega, by omega⟩ (fun i σ H'' _ p => by rw [p.1]; exact SqL.of hc1) (fun i x σ H'' hi p => ?_) (fun σ H'' p => ?_)⟩
      · obtain ⟨rfl, b, o, rfl, b0, b1⟩ := p
        rw [List.getElem?_map] at hi
        obtain ⟨n, _, rfl⟩ := Option.map_eq_some_iff.mp hi
        refine ⟨.int b, rfl, b, 48271, rfl, rfl, .inr ⟨by decide, by decide⟩, .int n, rfl, n, 2147483549, rfl, rfl, (by decide : (0 : Int) < 2147483549), _, _, rfl, rfl, _, 11, rfl, rfl, .inl ⟨_, rfl, _, 2147483647, rfl, rfl, (by decide : (0 : Int) < 2147483647), ?_⟩⟩
        exact ⟨rfl, _, _, rfl, Int.emod_nonneg _ (by decide), Int.emod_lt_of_pos _ (by decide)⟩
      · obtain ⟨rfl, b, o, rfl, b0, b1⟩ := p
        refine ⟨.ref D, rfl, D, rfl, ⟨_, SqL.of hc1⟩, fun D2 hD2 => ?_⟩
        refine lc_list (xs := cs.map V.int) (fun i H2 => Same H'' H2 ∧ ∃ es : List Int, H2 D2 = some (.lst (es.map V.int)) ∧ es.length ≤ i ∧ ∀ n ∈ es, 0 ≤ n)
          ⟨Same.new hD2, [], upd_same, Nat.le_refl _, by simp⟩ (fun i H2 _ p => SqL.of (p.1 _ _ hc1)) (fun i x H2 hi p => ?_) (fun H2 p => ?_)
        · obtain ⟨s1, es, he1, hl, h0'⟩ := p
          have hi' := (List.getElem?_eq_some_iff.mp hi).1
          rw [List.length_map] at hi'
          rw [List.getElem?_map] at hi
          obtain ⟨n, hn, rfl⟩ := Option.map_eq_some_iff.mp hi
          have hmem := List.mem_of_getElem? hn
          refine ⟨rfl, .int n, rfl, 10, 18, rfl, rfl, ⟨by decide, by decide, by decide⟩, n, _, rfl, rfl, _, rfl, ?_⟩
          by_cases hb : decide ((10 : Int) ^ (18 : Int).toNat ≤ n) = true
          · refine iteT' hb ⟨.int n, rfl, es.map V.int, he1, ?_, ?_, es ++ [n], ?_, ?_, ?_⟩
            · rw [List.length_map]; exact Nat.lt_of_lt_of_le (by omega : es.length < 48) (by decide)
            · exact fun b o h => by
                rw [upd_ne (fun z => ?_)]
                · exact s1 b o h
                · rw [z, hD2] at h; cases h
            · rw [upd_same]; simp
            · simp; omega
            · intro k hk
              rcases List.mem_append.mp hk with hk | hk
              · exact h0' k hk
              · rw [List.mem_singleton.mp hk]; exact h0 n hmem
          · exact iteF' (by simpa using hb) ⟨s1, es, he1, by omega, h0'⟩
        · obtain ⟨s1, es, he1, hl2, h0'⟩ := p
          rw [List.length_map] at hl2
          refine ⟨D2, _, rfl, SqL.of he1, fun q hq => ?_⟩
          refine ⟨.int b, rfl, by show 2 ≤ sizeLine; decide, fun p hp => ?_⟩
          have S3 := (S2.trans s1).trans (Same.new (o := .lst (es.map V.int).reverse) hq)
          have hqp : p ≠ q := fun z => by rw [z, upd_same] at hp; cases hp
          refine hQ _ p q (S3.trans (Same.new hp)) ((S3).free hp) ((S2.trans s1).free hq) ⟨es.reverse, b, upd_same, ?_, hqp, fun n hn => h0' n (by simpa using hn), by simp; omega, b0, b1⟩
          rw [upd_ne (Ne.symm hqp), upd_same, List.map_reverse]
end
end K65

namespace K65
open PySem PySem.Spec PyProof.Rows L2 KX
/-! ### classes of values -/
theorem tyx_same {K : PySem.W.Frag} {H H' : Hp} {x : V} {t : Value} (h : TyX K H x t) (s : Same H H') : TyX K H' x t := by
  cases h with
  | base h =>
    refine .base ?_
    cases h with
    | lst e => exact .lst (s _ _ e)
    | frz e => exact .frz (s _ _ e)
    | tup e => exact .tup (s _ _ e)
    | dK e => exact .dK (s _ _ e)
    | dT e => exact .dT (s _ _ e)
    | ins e a b c d f => exact .ins (s _ _ e) a b c d f
    | _ => constructor
  | byt b => exact .byt b
  | set e => exact .set (s _ _ e)
  | kList e c => exact .kList e c
  | kTuple e c => exact .kTuple e c
  | kDict e c => exact .kDict e c
  | fTuple e => exact .fTuple (s _ _ e)
  | fDict e => exact .fDict (s _ _ e)
theorem kin_same {K : PySem.W.Frag} {H H' : Hp} {x : V} {o : Option Int} (h : Kin K H x o) (s : Same H H') : Kin K H' x o := by
  cases h with
  | int i => exact .int i
  | oth t h1 h2 h3 => exact .oth (tyx_same t s) h1 h2 h3
theorem kins_same {K : PySem.W.Frag} {H H' : Hp} {xs : List V} {os : List (Option Int)} (h : Paired (Kin K H) xs os) (s : Same H H') : Paired (Kin K H') xs os := by
  induction h with
  | nil => exact .nil
  | cons a _ ih => exact .cons (kin_same a s) ih
inductive SqX (K : PySem.W.Frag) (H : Hp) : V → Option (List V) → Prop
  | lst {a : Addr} {xs : List V} (h : H a = some (.lst xs)) : SqX K H (.ref a) (some xs)
  | tup {a : Addr} {xs : List V} (h : Tup H a xs) : SqX K H (.ref a) (some xs)
  | oth {x : V} {n : String} (t : TyX K H x (.type n)) (h1 : kitB n "list" = some false) (h2 : kitB n "tuple" = some false) : SqX K H x none
theorem sqx_same {K : PySem.W.Frag} {H H' : Hp} {x : V} {o : Option (List V)} (h : SqX K H x o) (s : Same H H') : SqX K H' x o := by
  cases h with
  | lst h => exact .lst (s _ _ h)
  | tup h => exact .tup (h.same s)
  | oth t h1 h2 => exact .oth (tyx_same t s) h1 h2
theorem SqX.ty {K : PySem.W.Frag} {H : Hp} {x : V} {o : Option (List V)} (h : SqX K H x o) : ∃ n b1 b2, TyX K H x (.type n) ∧ kitB n "list" = some b1 ∧ kitB n "tuple" = some b2 ∧ (b1 || b2) = o.isSome := by
  cases h with
  | lst h => exact ⟨"list", true, false, .base (.lst h), by decide +kernel, by decide +kernel, rfl⟩
  | tup h => exact ⟨"tuple", false, true, h.ty, by decide +kernel, by decide +kernel, rfl⟩
  | oth t h1 h2 => exact ⟨_, _, _, t, h1, h2, rfl⟩
theorem kit_any {K : PySem.W.Frag} {n : String} {b1 b2 : Bool} (h1 : kitB n "list" = some b1) (h2 : kitB n "tuple" = some b2) :
    PySem.W.kitAny K (.type n) [.type "list", .type "tuple"] = some (b1 || b2) := by
  have k1 : PySem.W.kitOne K (.type n) (.type "list") = some b1 := kit_ty h1
  have k2 : PySem.W.kitOne K (.type n) (.type "tuple") = some b2 := kit_ty h2
  unfold PySem.W.kitAny
  rw [k1]
  cases b1 with
  | true => rfl
  | false =>
    show PySem.W.kitAny K (.type n) [.type "tuple"] = some b2
    unfold PySem.W.kitAny
    rw [k2]
    cases b2 <;> rfl
def numB : Option Int → Bool
  | some i => decide (0 ≤ i)
  | none => false
def belB (o : Option Int) (n : Int) : Bool := match o with
  | some i => decide (0 ≤ i) && decide (i < n)
  | none => false
abbrev bel4 (o : Option Int) : Bool := belB o 4
/-! ### what the defs do -/
def spIsInt (K : PySem.W.Frag) : Sp := fun vs H Q _ => ∃ x o, vs = [x] ∧ Kin K H x o ∧ Q (.bl o.isSome) H
def spNum (K : PySem.W.Frag) : Sp := fun vs H Q _ => ∃ x o, vs = [x] ∧ Kin K H x o ∧ Q (.bl (numB o)) H
def spBelow (K : PySem.W.Frag) : Sp := fun vs H Q _ => ∃ x o, ∃ n : Int, vs = [x, .int n] ∧ Kin K H x o ∧ Q (.bl (belB o n)) H
def spMode (K : PySem.W.Frag) : Sp := fun vs H Q _ => ∃ x o, vs = [x] ∧ Kin K H x o ∧ Q (.bl (bel4 o)) H
def spSeq (K : PySem.W.Frag) : Sp := fun vs H Q _ => ∃ x o, vs = [x] ∧ SqX K H x o ∧ ∀ H', Same H H' → Q (.bl o.isSome) H'
section
variable {P : Program} {w : World} {K : PySem.W.Frag} {mg : Str → Option Value} {base : Heap} {f1 f2 f3 : Addr} {d1 d2 d3 : FuncData} {f : Addr} {fd : FuncData}
theorem ok_int (F : Fun K "is_integer" "is_integer" s_is_integer f fd) (gI : mg "isinstance" = none)
    (gi : mg "int" = none) (gb : mg "bool" = none) : FnOk P w K mg base CX0 1 f fd ["value"] (spIsInt K) := by
  refine F.ok sc_is_integer (fun vs H Q E h => ?_) fun cdv A outer s H vs Q E hr h => ⟨_, pss_one (ps_ret (pe_and
      (pe_callB call_isi (by rfl) gI (by decide +kernel) (by exact pa_cons (pv 0) (pa_cons (pe_bltn (v := .ty "int") rfl gi (by decide +kernel) rfl) pa_nil)))
      (pe_one (pe_not (pe_callB call_isi (by rfl) gI (by decide +kernel)
        (by exact pa_cons (pv 0) (pa_cons (pe_bltn (v := .ty "bool") rfl gb (by decide +kernel) rfl) pa_nil))))))), ?_⟩
  · obtain ⟨x, o, rfl, _⟩ := h
    rfl
  · obtain ⟨x, o, rfl, hk, hQ⟩ := h
    obtain ⟨n, b1, b2, ty, k1, k2, e⟩ := hk.ty
    refine ⟨_, rfl, x, .ty "int", _, _, b1, rfl, .ty "int", ty, kit_ty k1, b1, rfl, ?_⟩
    rw [← e] at hQ
    cases b1 with
    | false => exact iteF hQ
    | true => exact iteT ⟨_, rfl, x, .ty "bool", _, _, b2, rfl, .ty "bool", ty, kit_ty k2, b2, rfl, hQ⟩
theorem ok_num (F : Fun K "is_number" "is_number" s_is_number f fd) (F1 : Fun K "is_integer" "is_integer" s_is_integer f1 d1) (G1 : FnOk P w K mg base CX0 1 f1 d1 ["value"] (spIsInt K))
    (g1 : mg "is_integer" = some (.ref f1)) : FnOk P w K mg base CX0 2 f fd ["value"] (spNum K) := by
  refine F.ok sc_is_number (fun vs H Q E h => ?_) fun cdv A outer s H vs Q E hr h => ⟨_, pss_one (ps_ret (pe_and
      (pe_call G1 hr (by rfl) g1 F1.kp (F1.binds fun _ _ _ _ _ _ us hl => match us, hl with | [_], _ => rfl) .nil pass0 (by exact pa_cons (pv 0) pa_nil))
      (pe_one (pe_cmpR op_ge (pv 0) pe_int (nomark _))))), ?_⟩
  · obtain ⟨x, o, rfl, _⟩ := h
    rfl
  · obtain ⟨x, o, rfl, hk, hQ⟩ := h
    refine ⟨x, rfl, x, o, rfl, hk, o.isSome, rfl, ?_⟩
    cases hk with
    | int i => exact iteT ⟨.int i, rfl, i, 0, rfl, rfl, hQ⟩
    | oth t h1 h2 h3 => exact iteF hQ
theorem ok_below (F : Fun K "is_below" "is_below" s_is_below f fd) (F1 : Fun K "is_number" "is_number" s_is_number f1 d1) (G1 : FnOk P w K mg base CX0 2 f1 d1 ["value"] (spNum K))
    (g1 : mg "is_number" = some (.ref f1)) : FnOk P w K mg base CX0 3 f fd ["value", "limit"] (spBelow K) := by
  refine F.ok sc_is_below (fun vs H Q E h => ?_) fun cdv A outer s H vs Q E hr h => ⟨_, pss_one (ps_ret (pe_and
      (pe_call G1 hr (by rfl) g1 F1.kp (F1.binds fun _ _ _ _ _ _ us hl => match us, hl with | [_], _ => rfl) .nil pass0 (by exact pa_cons (pv 0) pa_nil))
      (pe_one (pe_cmpR op_lt (pv 0) (pv 1) (nomark _))))), ?_⟩
  · obtain ⟨x, o, n, rfl, _⟩ := h
    rfl
  · obtain ⟨x, o, n, rfl, hk, hQ⟩ := h
    refine ⟨x, rfl, x, o, rfl, hk, numB o, rfl, ?_⟩
    cases hk with
    | int i =>
      have e : belB (some i) n = (decide (0 ≤ i) && decide (i < n)) := rfl
      rw [e] at hQ
      by_cases h0 : 0 ≤ i
      · rw [decide_eq_true h0, Bool.true_and] at hQ
        exact iteT' (decide_eq_true h0) ⟨.int i, rfl, .int n, rfl, i, n, rfl, rfl, hQ⟩
      · rw [decide_eq_false h0, Bool.false_and] at hQ
        exact iteF' (decide_eq_false h0) hQ
    | oth t h1 h2 h3 => exact iteF hQ
theorem ok_mode (F : Fun K "is_mode" "is_mode" s_is_mode f fd) (F1 : Fun K "is_below" "is_below" s_is_below f1 d1) (G1 : FnOk P w K mg base CX0 3 f1 d1 ["value", "limit"] (spBelow K))
    (g1 : mg "is_below" = some (.ref f1)) {t : Tok} (gm : mg "MOST_MODES" = some (.int 4 t)) : FnOk P w K mg base CX0 4 f fd ["value"] (spMode K) := by
  refine F.ok sc_is_mode (fun vs H Q E h => ?_) fun cdv A outer s H vs Q E hr h => ⟨_, pss_one (ps_ret
      (pe_call G1 hr (by rfl) g1 F1.kp (F1.binds fun _ _ _ _ _ _ us hl => match us, hl with | [_, _], _ => rfl) .nil pass0 (by exact pa_cons (pv 0) (pa_cons (pe_glob (v := .int 4) rfl gm ⟨_, rfl⟩) pa_nil)))), ?_⟩
  · obtain ⟨x, o, rfl, _⟩ := h
    rfl
  · obtain ⟨x, o, rfl, hk, hQ⟩ := h
    exact ⟨x, rfl, x, o, 4, rfl, hk, hQ⟩
theorem ok_seq (F : Fun K "is_sequence" "is_sequence" s_is_sequence f fd) (gI : mg "isinstance" = none) (gl : mg "list" = none) (gt : mg "tuple" = none) :
    FnOk P w K mg base CX0 1 f fd ["value"] (spSeq K) := by
  refine F.ok sc_is_sequence (fun vs H Q E h => ?_) fun cdv A outer s H vs Q E hr h => ⟨_, pss_one (ps_ret
      (pe_callB call_isiT (by rfl) gI (by decide +kernel) (by exact pa_cons (pv 0) (pa_cons (pe_tup (pa_cons (pe_bltn (v := .ty "list") rfl gl (by decide +kernel) rfl)
        (pa_cons (pe_bltn (v := .ty "tuple") rfl gt (by decide +kernel) rfl) pa_nil))) pa_nil)))), ?_⟩
  · obtain ⟨x, o, rfl, _⟩ := h
    rfl
  · obtain ⟨x, o, rfl, hk, hQ⟩ := h
    refine ⟨x, rfl, by show 2 ≤ sizeLine; decide, fun p hp => ?_⟩
    have S : Same H (upd H p (.tup [.ty "list", .ty "tuple"])) := Same.new hp
    obtain ⟨n, b1, b2, ty, k1, k2, e⟩ := (sqx_same hk S).ty
    refine ⟨x, p, _, _, [.type "list", .type "tuple"], b1 || b2, rfl, upd_same, .cons (.ty "list") (.cons (.ty "tuple") .nil), ty, kit_any k1 k2, ?_⟩
    rw [e]
    exact hQ _ S
end
section
variable {P : Program} {w : World} {K : PySem.W.Frag} {mg : Str → Option Value} {base : Heap} (T : TX K mg)
theorem G_is_integer : FnOk P w K mg base CX0 1 T.f_is_integer T.d_is_integer ["value"] (spIsInt K) := ok_int T.F_is_integer T.n_isinstance T.n_int T.n_bool
theorem G_is_number : FnOk P w K mg base CX0 2 T.f_is_number T.d_is_number ["value"] (spNum K) := ok_num T.F_is_number T.F_is_integer (G_is_integer T) T.m_is_integer
theorem G_is_below : FnOk P w K mg base CX0 3 T.f_is_below T.d_is_below ["value", "limit"] (spBelow K) := ok_below T.F_is_below T.F_is_number (G_is_number T) T.m_is_number
theorem G_is_mode : FnOk P w K mg base CX0 4 T.f_is_mode T.d_is_mode ["value"] (spMode K) := ok_mode T.F_is_mode T.F_is_below (G_is_below T) T.m_is_below T.m_MOST_MODES
theorem G_is_sequence : FnOk P w K mg base CX0 1 T.f_is_sequence T.d_is_sequence ["value"] (spSeq K) := ok_seq T.F_is_sequence T.n_isinstance T.n_list T.n_tuple
theorem G__law_any : FnOk P w K mg base CX0 1 T.f__law_any T.d__law_any ["deal", "bound"] spAny := ok_any T.F__law_any T.n_int
theorem G__law_of : FnOk P w K mg base CX0 2 T.f__law_of T.d__law_of ["deal", "some"] (spOf K) := ok_of T.F__law_of T.F__law_any T.m__law_any T.n_int T.n_len
theorem G__law_draw : FnOk P w K mg base CX0 1 T.f__law_draw T.d__law_draw ["script", "salt"] (spDraw K) := ok_draw T.F__law_draw T.n_int T.n_abs
end
end K65

namespace KX
open PySem PySem.Spec PyProof.Rows L2
theorem PG.or {X : Cx} {tg : Expr} {w1 w2 : TG} (h1 : PG X tg w1) (h2 : PG X tg w2) : PG X tg (fun v σ H Q => w1 v σ H Q ∨ w2 v σ H Q) :=
  ⟨fun pins s σ H v u Q I r h => h.elim (h1.run pins s σ H v u Q I r) (h2.run pins s σ H v u Q I r)⟩
theorem inV_ints (b : Int) : ∀ row : List Int, inV (.int b) (row.map V.int) = decide (b ∈ row)
  | [] => rfl
  | x :: row => by
    have h := inV_ints b row
    show (eqV (.int x) (.int b) || inV (.int b) (row.map V.int)) = _
    rw [h]
    have e : eqV (.int x) (.int b) = decide (x = b) := by
      first
        | rfl
        | (simp [eqV])
    rw [e]
    by_cases z : x = b
    · simp [z]
    · have z' : ¬ b = x := fun q => z q.symm
      simp [z, z']
theorem flat_ints : ∀ row : List Int, (row.map V.int).all flatV = true
  | [] => rfl
  | x :: row => by
    show (flatV (.int x) && (row.map V.int).all flatV) = true
    rw [flat_ints row]; rfl
theorem rd_notInI {K : PySem.W.Frag} {H : Hp} {p : Addr} {row : List Int} {b : Int} {Q : VK} (ha : SqL K H p (row.map V.int) ∨ SqT K H p (row.map V.int)) (h : Q (.bl (!decide (b ∈ row))) H) : rIn K true (.int b) (.ref p) H Q :=
  ⟨p, _, rfl, ha, rfl, flat_ints row, by rw [inV_ints]; exact h⟩
theorem rd_inI {K : PySem.W.Frag} {H : Hp} {p : Addr} {row : List Int} {b : Int} {Q : VK} (ha : SqL K H p (row.map V.int) ∨ SqT K H p (row.map V.int)) (h : Q (.bl (decide (b ∈ row))) H) : rIn K false (.int b) (.ref p) H Q :=
  ⟨p, _, rfl, ha, rfl, flat_ints row, by rw [inV_ints]; exact h⟩
end KX
namespace K65
open PySem PySem.Spec PyProof.Rows L2 KX
local macro_rules | `(tactic| walk_at "rd1") => `(tactic| first
  | with_reducible refine rd_seq ?_
  | with_reducible refine rd_asg ?_
  | ((with_reducible refine' rd_var ?rdv ?_); (case rdv => exact rfl))
  | with_reducible refine rd_c ?_
  | with_reducible refine rd_op ?_
  | with_reducible refine rd_un ?_
  | with_reducible refine rd_cons ?_
  | with_reducible refine rd_nil ?_
  | with_reducible refine rd_call ?_
  | with_reducible refine rd_cb ?_
  | with_reducible refine rd_tB ?_
  | with_reducible refine rd_test ?_
  | with_reducible refine rd_bl ?_
  | with_reducible refine rd_rI0 ?_
  | with_reducible refine rd_eqI ?_
  | with_reducible refine rd_neI ?_
  | with_reducible refine rd_rU ?_
  | with_reducible refine rd_name ?_
  | with_reducible refine rd_ifs ?_
  | with_reducible refine rd_and ?_
  | with_reducible refine rd_or ?_
  | with_reducible refine rd_not ?_
  | with_reducible refine rd_yes ?_
  | with_reducible refine rd_andV ?_
  | with_reducible refine rd_orV ?_
  | with_reducible refine rd_notV ?_
  | with_reducible refine rd_if ?_
  | with_reducible refine rd_isN ?_
  | with_reducible refine rd_iT ?_
  | with_reducible refine rd_iF ?_
  | with_reducible refine rd_ret ?_
  | with_reducible refine rd_retN ?_
  | with_reducible refine rd_drop ?_
  | with_reducible refine rd_next ?_
  | with_reducible refine rd_cont ?_
  | with_reducible refine rd_brk ?_
  | with_reducible refine rd_nx ?_
  | with_reducible refine rd_rt ?_
  | with_reducible refine rd_ct ?_
  | with_reducible refine rd_bk ?_
  | with_reducible refine rd_par ?_
  | with_reducible refine rd_par3 ?_
  | with_reducible refine rd_par2 ?_
  | with_reducible refine rd_par33 ?_
  | with_reducible refine rd_gcons ?_
  | with_reducible refine rd_gnil ?_
  | with_reducible refine rd_sub ?_
  | with_reducible refine rd_tup ?_
  | with_reducible refine rd_lst ?_
  | ((with_reducible refine rd_tupT ?hl ?_); (case hl => exact Nat.le_of_ble_eq_true rfl))
  | ((with_reducible refine rd_lstT ?hl ?_); (case hl => exact Nat.le_of_ble_eq_true rfl))
  | with_reducible refine rd_bm ?_
  | with_reducible refine rd_bm0 ?_
  | with_reducible refine rd_sl ?_
  | with_reducible refine rd_noP ?_
  | with_reducible refine rd_part ?_
  | with_reducible refine rd_int ?_
  | with_reducible refine rd_int1 ?_
  | with_reducible refine rd_fld ?_
  | with_reducible refine rd_then ?_
  | with_reducible refine rd_raise ?_
  | with_reducible refine rd_one ?_
  | with_reducible refine rd_sfld ?_
  | with_reducible refine rd_ilist ?_
  | with_reducible refine rd_itup ?_
  | with_reducible refine rd_rng1 ?_
  | with_reducible refine rd_enum ?_
  | with_reducible refine rd_enumT ?_)
local macro_rules | `(tactic| walk_at "rd") => `(tactic| repeat (walk_at "rd1"))
/-! ### the rows of neighbours -/
def rowOf (R : List (List Int)) (a : Int) : List Int := R.getD a.toNat []
def okL (R : List (List Int)) : Option (Int × Int) → Bool
  | none => false
  | some (a, b) => !decide (b ∈ rowOf R a) && (decide ((rowOf R a).length < 4) && decide ((rowOf R b).length < 4))
def appR (R : List (List Int)) (a b : Int) : List (List Int) := R.set a.toNat (rowOf R a ++ [b])
def addR (R : List (List Int)) : Option (Int × Int) → List (List Int)
  | none => R
  | some (a, b) => appR (appR R a b) b a
/-- one entry more, if it can be linked -/
def stepL (R : List (List Int)) (e : Option (Int × Int)) : Option (List (List Int)) := if okL R e = true then some (addR R e) else none
def runP (R : List (List Int)) : List (Option (Int × Int)) → Option (List (List Int))
  | [] => some R
  | e :: es => (stepL R e).bind fun R' => runP R' es
/-- the rows stand at rs -/
structure Rows (H : Hp) (N : Addr) (rs : List Addr) (R : List (List Int)) : Prop where
  at_ : H N = some (.lst (rs.map V.ref))
  rows : Paired (fun r (row : List Int) => H r = some (.lst (row.map V.int))) rs R
  nd : rs.Nodup
  out : N ∉ rs
theorem Rows.same {H H' : Hp} {N : Addr} {rs : List Addr} {R : List (List Int)} (h : Rows H N rs R) (s : Same H H') : Rows H' N rs R :=
  ⟨s _ _ h.at_, by
    have h2 := h.rows
    clear h
    induction h2 with
    | nil => exact .nil
    | cons a _ ih => exact .cons (s _ _ a) ih, h.nd, h.out⟩
/-- what an entry of the links is, among n sites -/
inductive LkIs (K : PySem.W.Frag) (H : Hp) (n : Nat) : V → Option (Int × Int) → Prop
  | seq {x : V} (s : SqX K H x none) : LkIs K H n x none
  | len {x : V} {xs : List V} (s : SqX K H x (some xs)) (l : xs.length ≠ 2) : LkIs K H n x none
  | fst {x y z : V} {o : Option Int} (s : SqX K H x (some [y, z])) (k : Kin K H y o) (b : belB o n = false) : LkIs K H n x none
  | snd {x y z : V} {o o' : Option Int} (s : SqX K H x (some [y, z])) (k : Kin K H y o) (k' : Kin K H z o') (b : belB o' n = false) : LkIs K H n x none
  | eq {x : V} {a : Int} (s : SqX K H x (some [.int a, .int a])) (a0 : 0 ≤ a) (a1 : a < n) : LkIs K H n x none
  | ok {x : V} {a b : Int} (s : SqX K H x (some [.int a, .int b])) (a0 : 0 ≤ a) (a1 : a < n) (b0 : 0 ≤ b) (b1 : b < n) (ne : a ≠ b) : LkIs K H n x (some (a, b))
theorem LkIs.same {K : PySem.W.Frag} {H H' : Hp} {n : Nat} {x : V} {e : Option (Int × Int)} (h : LkIs K H n x e) (s : Same H H') : LkIs K H' n x e := by
  cases h with
  | seq h => exact .seq (sqx_same h s)
  | len h l => exact .len (sqx_same h s) l
  | fst h k b => exact .fst (sqx_same h s) (kin_same k s) b
  | snd h k k' b => exact .snd (sqx_same h s) (kin_same k s) (kin_same k' s) b
  | eq h a b => exact .eq (sqx_same h s) a b
  | ok h a b c d e => exact .ok (sqx_same h s) a b c d e
theorem belB_true {a : Int} {n : Nat} (h0 : 0 ≤ a) (h1 : a < n) : belB (some a) n = true := by
  show (decide (0 ≤ a) && decide (a < (n : Int))) = true
  rw [decide_eq_true h0, decide_eq_true h1]; rfl
theorem SqX.any {K : PySem.W.Frag} {H : Hp} {x : V} {xs : List V} (h : SqX K H x (some xs)) : ∃ a, x = .ref a ∧ (SqL K H a xs ∨ SqT K H a xs) := by
  cases h with
  | lst h => exact ⟨_, rfl, .inl (SqL.of h)⟩
  | tup h => exact ⟨_, rfl, .inr h.sq⟩
theorem SqX.unp {K : PySem.W.Frag} {H : Hp} {a : Addr} {xs : List V} {n : Nat} {t : TGs} {σ : L2.St} {Q : L2.St → Hp → Prop} (h : SqX K H (.ref a) (some xs)) (e : xs.length = n) (q : t xs σ H Q) : gTup K n t (.ref a) σ H Q ∨ gLst K n t (.ref a) σ H Q := by
  cases h with
  | lst h => exact .inr (rd_glst h e q)
  | tup h => exact .inl (rd_gtup h e q)
def spCan (K : PySem.W.Frag) : Sp := fun vs H Q _ => ∃ (N : Addr) (rs : List Addr) (R : List (List Int)) (x : V) (e : Option (Int × Int)), vs = [.ref N, x] ∧ Rows H N rs R ∧ LkIs K H rs.length x e ∧
  ∀ H', Same H H' → Q (.bl (okL R e)) H'
theorem rowOf_get {R : List (List Int)} {a : Int} (h1 : a.toNat < R.length) : R[a.toNat]? = some (rowOf R a) := by
  unfold rowOf
  rw [List.getD_eq_getElem?_getD, List.getElem?_eq_getElem h1]; rfl
theorem Rows.get {H : Hp} {N : Addr} {rs : List Addr} {R : List (List Int)} (h : Rows H N rs R) {a : Int} (a0 : 0 ≤ a) (a1 : a < rs.length) :
    ∃ r, rs[a.toNat]? = some r ∧ H r = some (.lst ((rowOf R a).map V.int)) ∧ atI (rs.map V.ref) a = some (.ref r) := by
  have hl : a.toNat < rs.length := by omega
  have e := List.getElem?_eq_getElem hl
  have z : rs.length = R.length := Paired.length h.rows
  refine ⟨rs[a.toNat], e, ?_, ?_⟩
  · have q := h.rows
    obtain ⟨y, hy, hq⟩ : ∃ y, R[a.toNat]? = some y ∧ H rs[a.toNat] = some (.lst (y.map V.int)) := by
      have gen : ∀ {l : List Addr} {m : List (List Int)}, Paired (fun r (row : List Int) => H r = some (.lst (row.map V.int))) l m → ∀ i (h : i < l.length), ∃ y, m[i]? = some y ∧ H l[i] = some (.lst (y.map V.int)) := by
        intro l m p
        induction p with
        | nil => intro i h; simp at h
        | @cons x y l m hxy _ ih =>
          intro i h
          cases i with
          | zero => exact ⟨y, rfl, hxy⟩
          | succ j => exact ih j (by simpa using h)
      exact gen q a.toNat hl
    rw [rowOf_get (by omega)] at hy
    cases hy
    exact hq
  · obtain ⟨n, rfl⟩ := Int.eq_ofNat_of_zero_le a0
    have e' : rs[n]? = some rs[n] := e
    exact atI_nat (by rw [List.getElem?_map, e']; rfl)
section
variable {P : Program} {w : World} {K : PySem.W.Frag} {mg : Str → Option Value} {base : Heap} (T : TX K mg)
theorem G_can_link : FnOk P w K mg base CX0 4 T.f_can_link T.d_can_link ["near", "link"] (spCan K) := by
  refine T.F_can_link.ok sc_can_link (fun vs H Q E h => ?_) fun cdv A outer s H vs Q E hr h => ⟨_, (pss_cons (ps_if (PW.pt (pw_or (pt_not (pt_val (pe_call (G_is_sequence T) (hr.mono (by decide)) (by rfl) T.m_is_sequence T.F_is_sequence.kp T.b_is_sequence .nil pass0 (by exact (pa_cons (pv 1) pa_nil))))) (pw_or1 (pt_cmpR op_ne (pe_callB (cr_lenK (K := K)) (by rfl) T.n_len (by decide +kernel) (by exact (pa_cons (pv 1) pa_nil))) pe_int (nomark _))))) (pss_one (ps_ret pe_bl)) pss_nil) (pss_cons (ps_asg (pv 1) (KX.PG.or (pg_tupK (K := K) (n := 2) (by rfl) (pgs_cons (pg_name (i := 2) sc_can_link.nd rfl (.inl rfl)) (pgs_cons (pg_name (i := 3) sc_can_link.nd rfl (.inl rfl)) pgs_nil))) (pg_lstK (K := K) (n := 2) (by rfl) (pgs_cons (pg_name (i := 2) sc_can_link.nd rfl (.inl rfl)) (pgs_cons (pg_name (i := 3) sc_can_link.nd rfl (.inl rfl)) pgs_nil))))) (pss_cons (ps_if (PW.pt (pw_or (pt_not (pt_val (pe_call (G_is_below T) (hr.mono (by decide)) (by rfl) T.m_is_below T.F_is_below.kp T.b_is_below .nil pass0 (by exact (pa_cons (pv 2) (pa_cons (pe_callB (cr_lenK (K := K)) (by rfl) T.n_len (by decide +kernel) (by exact (pa_cons (pv 0) pa_nil))) pa_nil)))))) (pw_or (pt_not (pt_val (pe_call (G_is_below T) (hr.mono (by decide)) (by rfl) T.m_is_below T.F_is_below.kp T.b_is_below .nil pass0 (by exact (pa_cons (pv 3) (pa_cons (pe_callB (cr_lenK (K := K)) (by rfl) T.n_len (by decide +kernel) (by exact (pa_cons (pv 0) pa_nil))) pa_nil)))))) (pw_or1 (pt_cmpR op_eq (pv 2) (pv 3) (nomark _)))))) (pss_one (ps_ret pe_bl)) pss_nil) (pss_one (ps_ret (pe_and (pe_cmpR (op_notInK (K := K)) (pv 3) (pe_ix (ix_listK (K := K)) (pv 0) (pv 2) (fun _ _ => rfl)) (by rfl)) (pe_and (pe_cmpR op_lt (pe_callB (cr_lenK (K := K)) (by rfl) T.n_len (by decide +kernel) (by exact (pa_cons (pe_ix (ix_listK (K := K)) (pv 0) (pv 2) (fun _ _ => rfl)) pa_nil))) (pe_glob (v := .int 4) rfl T.m_MOST_NEIGHBOURS ⟨_, rfl⟩) (nomark _)) (pe_one (pe_cmpR op_lt (pe_callB (cr_lenK (K := K)) (by rfl) T.n_len (by decide +kernel) (by exact (pa_cons (pe_ix (ix_listK (K := K)) (pv 0) (pv 3) (fun _ _ => rfl)) pa_nil))) (pe_glob (v := .int 4) rfl T.m_MOST_NEIGHBOURS ⟨_, rfl⟩) (nomark _)))))))))), ?_⟩
  · obtain ⟨N, rs, R, x, e, rfl, _⟩ := h
    rfl
  · obtain ⟨N, rs, R, x, e, rfl, hR, hx, hQ⟩ := h
    cases hx with
    | seq h =>
      walk_at "rd"
      refine ⟨_, _, rfl, h, fun H1 S1 => ?_⟩
      walk_at "rd"
      exact hQ H1 S1
    | @len xs h l =>
      walk_at "rd"
      refine ⟨_, _, rfl, h, fun H1 S1 => ?_⟩
      have h1 := sqx_same h S1
      walk_at "rd"
      refine rd_iF ?_
      walk_at "rd"
      obtain ⟨a, rfl, hs⟩ := h1.any
      refine rd_lenB hs ?_
      walk_at "rd"
      refine iteT' (by simp; omega) ?_
      walk_at "rd"
      exact hQ H1 S1
    | @fst y z o h k b =>
      walk_at "rd"
      refine ⟨_, _, rfl, h, fun H1 S1 => ?_⟩
      have h1 := sqx_same h S1
      have hR1 := hR.same S1
      walk_at "rd"
      refine rd_iF ?_
      walk_at "rd"
      obtain ⟨a, rfl, hs⟩ := h1.any
      refine rd_lenB hs ?_
      walk_at "rd"
      refine iteF' rfl ?_
      walk_at "rd"
      refine h1.unp rfl ?_
      walk_at "rd"
      refine rd_len hR1.at_ ?_
      walk_at "rd"
      refine ⟨_, _, _, rfl, kin_same k S1, ?_⟩
      walk_at "rd"
      rw [List.length_map, b]
      walk_at "rd"
      exact hQ H1 S1
    | snd h k k' b => 
      walk_at "rd"
      refine ⟨_, _, rfl, h, fun H1 S1 => ?_⟩
      have h1 := sqx_same h S1
      have hR1 := hR.same S1
      walk_at "rd"
      refine rd_iF ?_
      walk_at "rd"
      obtain ⟨a, rfl, hs⟩ := h1.any
      refine rd_lenB hs ?_
      walk_at "rd"
      refine iteF' rfl ?_
      walk_at "rd"
      refine h1.unp rfl ?_
      walk_at "rd"
      refine rd_len hR1.at_ ?_
      walk_at "rd"
      refine ⟨_, _, _, rfl, kin_same k S1, ?_⟩
      walk_at "rd"
      rw [List.length_map]
      cases belB _ _ with
      | false => walk_at "rd"; exact hQ H1 S1
      | true =>
        refine rd_iF ?_
        walk_at "rd"
        refine rd_len hR1.at_ ?_
        walk_at "rd"
        refine ⟨_, _, _, rfl, kin_same k' S1, ?_⟩
        walk_at "rd"
        rw [List.length_map, b]
        walk_at "rd"
        exact hQ H1 S1
    | @eq a h a0 a1 =>
      have ba := belB_true a0 a1
      walk_at "rd"
      refine ⟨_, _, rfl, h, fun H1 S1 => ?_⟩
      have h1 := sqx_same h S1
      have hR1 := hR.same S1
      walk_at "rd"
      refine rd_iF ?_
      walk_at "rd"
      obtain ⟨p, rfl, hs⟩ := h1.any
      refine rd_lenB hs ?_
      walk_at "rd"
      refine iteF' rfl ?_
      walk_at "rd"
      refine h1.unp rfl ?_
      walk_at "rd"
      refine rd_len hR1.at_ ?_
      walk_at "rd"
      refine ⟨_, _, _, rfl, .int a, ?_⟩
      walk_at "rd"
      rw [List.length_map, ba]
      refine rd_iF ?_
      walk_at "rd"
      refine rd_len hR1.at_ ?_
      walk_at "rd"
      refine ⟨_, _, _, rfl, .int a, ?_⟩
      walk_at "rd"
      rw [List.length_map, ba]
      refine rd_iF ?_
      walk_at "rd"
      refine iteT' (by simp) ?_
      walk_at "rd"
      exact hQ H1 S1
    | @ok a b h a0 a1 b0 b1 ne =>
      have ba := belB_true a0 a1
      have bb := belB_true b0 b1
      walk_at "rd"
      refine ⟨_, _, rfl, h, fun H1 S1 => ?_⟩
      have h1 := sqx_same h S1
      have hR1 := hR.same S1
      walk_at "rd"
      refine rd_iF ?_
      walk_at "rd"
      obtain ⟨p, rfl, hs⟩ := h1.any
      refine rd_lenB hs ?_
      walk_at "rd"
      refine iteF' rfl ?_
      walk_at "rd"
      refine h1.unp rfl ?_
      walk_at "rd"
      refine rd_len hR1.at_ ?_
      walk_at "rd"
      refine ⟨_, _, _, rfl, .int a, ?_⟩
      walk_at "rd"
      rw [List.length_map, ba]
      refine rd_iF ?_
      walk_at "rd"
      refine rd_len hR1.at_ ?_
      walk_at "rd"
      refine ⟨_, _, _, rfl, .int b, ?_⟩
      walk_at "rd"
      rw [List.length_map, bb]
      refine rd_iF ?_
      walk_at "rd"
      refine iteF' (by simpa using ne) ?_
      walk_at "rd"
      obtain ⟨ra, _, hra, ata⟩ := hR1.get a0 a1
      obtain ⟨rb, _, hrb, atb⟩ := hR1.get b0 b1
      refine rd_ixL hR1.at_ ata ?_
      refine rd_notInI (.inl (SqL.of hra)) ?_
      walk_at "rd"
      have e0 : okL R (some (a, b)) = (!decide (b ∈ rowOf R a) && (decide ((rowOf R a).length < 4) && decide ((rowOf R b).length < 4))) := rfl
      have hQ := hQ H1 S1
      rw [e0] at hQ
      by_cases h1 : b ∈ rowOf R a
      · have z : (!decide (b ∈ rowOf R a)) = false := by simp [h1]
        rw [z] at hQ ⊢
        walk_at "rd"
        exact hQ
      · have z : (!decide (b ∈ rowOf R a)) = true := by simp [h1]
        rw [z, Bool.true_and] at hQ
        rw [z]
        walk_at "rd"
        refine rd_ixL hR1.at_ ata ?_
        walk_at "rd"
        refine rd_len hra ?_
        walk_at "rd"
        by_cases h2 : (rowOf R a).length < 4
        · rw [decide_eq_true h2, Bool.true_and] at hQ
          refine iteT' (by simp; omega) ?_
          walk_at "rd"
          refine rd_ixL hR1.at_ atb ?_
          walk_at "rd"
          refine rd_len hrb ?_
          walk_at "rd"
          have e3 : decide (((List.map V.int (rowOf R b)).length : Int) < 4) = decide ((rowOf R b).length < 4) := by
            rw [List.length_map]
            by_cases h3 : (rowOf R b).length < 4
            · rw [decide_eq_true h3, decide_eq_true (by omega)]
            · rw [decide_eq_false h3, decide_eq_false (by omega)]
          rw [e3]
          exact hQ
        · rw [decide_eq_false h2, Bool.false_and] at hQ
          refine iteF' (by simp; omega) ?_
          walk_at "rd"
          exact hQ
end
end K65

namespace K65
open PySem PySem.Spec PyProof.Rows L2 KX
local macro_rules | `(tactic| walk_at "rd1") => `(tactic| first
  | with_reducible refine rd_seq ?_
  | with_reducible refine rd_asg ?_
  | ((with_reducible refine' rd_var ?rdv ?_); (case rdv => exact rfl))
  | with_reducible refine rd_c ?_
  | with_reducible refine rd_op ?_
  | with_reducible refine rd_un ?_
  | with_reducible refine rd_cons ?_
  | with_reducible refine rd_nil ?_
  | with_reducible refine rd_call ?_
  | with_reducible refine rd_cb ?_
  | with_reducible refine rd_tB ?_
  | with_reducible refine rd_test ?_
  | with_reducible refine rd_bl ?_
  | with_reducible refine rd_rI0 ?_
  | with_reducible refine rd_eqI ?_
  | with_reducible refine rd_neI ?_
  | with_reducible refine rd_rU ?_
  | with_reducible refine rd_name ?_
  | with_reducible refine rd_ifs ?_
  | with_reducible refine rd_and ?_
  | with_reducible refine rd_or ?_
  | with_reducible refine rd_not ?_
  | with_reducible refine rd_yes ?_
  | with_reducible refine rd_andV ?_
  | with_reducible refine rd_orV ?_
  | with_reducible refine rd_notV ?_
  | with_reducible refine rd_if ?_
  | with_reducible refine rd_isN ?_
  | with_reducible refine rd_iT ?_
  | with_reducible refine rd_iF ?_
  | with_reducible refine rd_ret ?_
  | with_reducible refine rd_retN ?_
  | with_reducible refine rd_drop ?_
  | with_reducible refine rd_next ?_
  | with_reducible refine rd_cont ?_
  | with_reducible refine rd_brk ?_
  | with_reducible refine rd_nx ?_
  | with_reducible refine rd_rt ?_
  | with_reducible refine rd_ct ?_
  | with_reducible refine rd_bk ?_
  | with_reducible refine rd_par ?_
  | with_reducible refine rd_par3 ?_
  | with_reducible refine rd_par2 ?_
  | with_reducible refine rd_par33 ?_
  | with_reducible refine rd_gcons ?_
  | with_reducible refine rd_gnil ?_
  | with_reducible refine rd_sub ?_
  | with_reducible refine rd_tup ?_
  | with_reducible refine rd_lst ?_
  | ((with_reducible refine rd_tupT ?hl ?_); (case hl => exact Nat.le_of_ble_eq_true rfl))
  | ((with_reducible refine rd_lstT ?hl ?_); (case hl => exact Nat.le_of_ble_eq_true rfl))
  | with_reducible refine rd_bm ?_
  | with_reducible refine rd_bm0 ?_
  | with_reducible refine rd_sl ?_
  | with_reducible refine rd_noP ?_
  | with_reducible refine rd_part ?_
  | with_reducible refine rd_int ?_
  | with_reducible refine rd_int1 ?_
  | with_reducible refine rd_fld ?_
  | with_reducible refine rd_then ?_
  | with_reducible refine rd_raise ?_
  | with_reducible refine rd_one ?_
  | with_reducible refine rd_sfld ?_
  | with_reducible refine rd_ilist ?_
  | with_reducible refine rd_itup ?_
  | with_reducible refine rd_rng1 ?_
  | with_reducible refine rd_enum ?_
  | with_reducible refine rd_enumT ?_)
local macro_rules | `(tactic| walk_at "rd") => `(tactic| repeat (walk_at "rd1"))
/-- a list (true) or a tuple -/
def SqB (H : Hp) (x : V) (xs : List V) : Bool → Prop
  | true => ∃ a, x = .ref a ∧ H a = some (.lst xs)
  | false => ∃ a, x = .ref a ∧ Tup H a xs
theorem SqX.b {K : PySem.W.Frag} {H : Hp} {x : V} {xs : List V} (h : SqX K H x (some xs)) : ∃ b, SqB H x xs b := by
  cases h with
  | lst h => exact ⟨true, _, rfl, h⟩
  | tup h => exact ⟨false, _, rfl, h⟩
theorem SqB.x {K : PySem.W.Frag} {H : Hp} {x : V} {xs : List V} {b : Bool} (h : SqB H x xs b) : SqX K H x (some xs) := by
  cases b with
  | true => obtain ⟨a, rfl, h⟩ := h; exact .lst h
  | false => obtain ⟨a, rfl, h⟩ := h; exact .tup h
theorem SqB.same {H H' : Hp} {x : V} {xs : List V} {b : Bool} (h : SqB H x xs b) (s : Same H H') : SqB H' x xs b := by
  cases b with
  | true => obtain ⟨a, rfl, h⟩ := h; exact ⟨a, rfl, s _ _ h⟩
  | false => obtain ⟨a, rfl, h⟩ := h; exact ⟨a, rfl, h.same s⟩
theorem for_enumX {K : PySem.W.Frag} {ta : TA} {g : TG} {tb : TS} {D : Ends} {σ : L2.St} {H : Hp} {x : V} {xs : List V} {b : Bool} (hx : SqB H x xs b) (hta : ∀ R : List V → Hp → Prop, R [x] H → ta σ H R)
    (Pv : Nat → L2.St → Hp → Prop) (h0 : Pv 0 σ H) (hS : ∀ i σ H', Pv i σ H' → SqB H' x xs b)
    (hs : ∀ i y σ H' T H2, xs[i]? = some y → Pv i σ H' → H' T = none → Same H' H2 → H2 T = some (.tup [.int (i : Nat), y]) → g (.ref T) σ H2 fun σ3 H3 => tb { D with nx := Pv (i + 1), ct := Pv (i + 1), bk := D.nx } σ3 H3)
    (hd : ∀ σ H', Pv xs.length σ H' → D.nx σ H') : tFor (fun σ H R => iEnum K ta σ H R ∨ iEnumT K ta σ H R) g tb D σ H := by
  have st : ∀ i v σ H1 H2, i < xs.length → Pv i σ H1 → YPair (fun i => some (.int (i : Nat))) (fun i => xs[i]?) i H1 v H2 → g v σ H2 fun σ3 H3 => tb { D with nx := Pv (i + 1), ct := Pv (i + 1), bk := D.nx } σ3 H3 := by
    rintro i v σ H1 H2 _ hp ⟨T, a, b, rfl, hT, rfl, ha, hb⟩
    have ha : some (V.int (i : Nat)) = some a := ha
    cases ha
    exact hs i b σ H1 T _ hb hp hT (Same.fresh hT) upd_same
  cases b with
  | true =>
    obtain ⟨a, rfl, h⟩ := hx
    refine .inl (hta _ ⟨_, _, rfl, SqL.of h, for_it (walk_enum (K := K) (xs := xs)) Pv h0 (fun i σ H' _ p => ?_) st hd⟩)
    obtain ⟨a', e, h'⟩ := hS i σ H' p
    cases e
    exact SqL.of h'
  | false =>
    obtain ⟨a, rfl, h⟩ := hx
    refine .inr (hta _ ⟨_, _, rfl, h.sq, for_it (walk_enumT (K := K) (xs := xs)) Pv h0 (fun i σ H' _ p => ?_) st hd⟩)
    obtain ⟨a', e, h'⟩ := hS i σ H' p
    cases e
    exact h'.sq
theorem kTup_b {K : PySem.W.Frag} {H : Hp} {x : V} {xs : List V} {b : Bool} {Q : VK} (h : SqB H x xs b) (q : ∀ H' p, Same H H' → Tup H' p xs → Q (.ref p) H') : kTup K x H Q := by
  cases b with
  | true => obtain ⟨a, rfl, h⟩ := h; exact .inl ⟨_, _, rfl, SqL.of h, fun p hp => q _ p (Same.fresh hp) (Tup.of upd_same)⟩
  | false => obtain ⟨a, rfl, h⟩ := h; exact .inr ⟨_, _, rfl, h.sq, q H _ (Same.refl H) h⟩
/-- what is raised: the class, the index -/
def ErrAt (C : Addr) (E : XK) (H : Hp) (i : Int) : Prop := ∀ H' d, Same H H' → H' d = none → E (.ref C) (some d) (upd H' d (.xd [(("at" : Str), .int i)]))
/-- modes: what may be told of them -/
def spModes (K : PySem.W.Frag) (C : Addr) : Sp := fun vs H Q E => ∃ (x : V) (o : Option (List V)), vs = [x] ∧ SqX K H x o ∧
  (o = none → ErrAt C E H 0) ∧ (o = some [] → ErrAt C E H 0) ∧
  ∀ xs, o = some xs → xs ≠ [] → ∃ os, Paired (Kin K H) xs os ∧
    (∀ (i : Nat) o, os[i]? = some o → (∀ j o', j < i → os[j]? = some o' → bel4 o' = true) → bel4 o = false → ErrAt C E H i) ∧
    ((∀ o ∈ os, bel4 o = true) → ∀ H' p, Same H H' → Tup H' p xs → Q (.ref p) H')
theorem paired_get {α β : Type} {F : α → β → Prop} {l : List α} {m : List β} (h : Paired F l m) : ∀ {i : Nat} {x : α}, l[i]? = some x → ∃ y, m[i]? = some y ∧ F x y := by
  induction h with
  | nil => intro i x e; simp at e
  | @cons a b l m hab t ih =>
    intro i x e
    cases i with
    | zero => simp at e; subst e; exact ⟨b, by simp, hab⟩
    | succ j => simp at e; obtain ⟨y, h1, h2⟩ := ih e; exact ⟨y, by simpa using h1, h2⟩
theorem paired_len {α β : Type} {F : α → β → Prop} {l : List α} {m : List β} (h : Paired F l m) : l.length = m.length := by
  induction h with
  | nil => rfl
  | cons _ _ ih => simp [ih]
section
variable {P : Program} {w : World} {K : PySem.W.Frag} {mg : Str → Option Value} {base : Heap} (T : TX K mg)
theorem G_checked_modes : FnOk P w K mg base (L2.CX P w) 5 T.f_checked_modes T.d_checked_modes ["modes"] (spModes K T.c_InvalidNetwork) := by
  refine T.F_checked_modes.okX sc_checked_modes (fun vs H Q E h => ?_) fun cdv A outer s H vs Q E hr h => ⟨_, (pss_cons (ps_if (PW.pt (pw_or (pt_not (pt_val (pe_call (G_is_sequence T) (hr.mono (by decide)) (by rfl) T.m_is_sequence T.F_is_sequence.kp T.b_is_sequence .nil pass0 (by exact (pa_cons (pv 0) pa_nil))))) (pw_or1 (pt_cmpR op_eq (pe_callB (cr_lenK (K := K)) (by rfl) T.n_len (by decide +kernel) (by exact (pa_cons (pv 0) pa_nil))) pe_int (nomark _))))) (pss_one (ps_raiseErrZ rfl T.E_InvalidNetwork hr (takes_of rfl rfl rfl rfl) (by exact (pa_cons pe_int pa_nil)))) pss_nil) (pss_cons (ps_for (passes_of rfl) rfl (PI.or (pi_enumK (K := K) (by rfl) T.n_enumerate (by exact (pa_cons (pv 0) pa_nil))) (pi_enumTK (K := K) (by rfl) T.n_enumerate (by exact (pa_cons (pv 0) pa_nil)))) (pg_tupK (K := K) (n := 2) (by rfl) (pgs_cons (pg_name (i := 1) sc_checked_modes.nd rfl (.inl rfl)) (pgs_cons (pg_name (i := 2) sc_checked_modes.nd rfl (.inl rfl)) pgs_nil))) (pss_one (ps_if (pt_not (pt_val (pe_call (G_is_mode T) (hr.mono (by decide)) (by rfl) T.m_is_mode T.F_is_mode.kp T.b_is_mode .nil pass0 (by exact (pa_cons (pv 2) pa_nil))))) (pss_one (ps_raiseErrZ rfl T.E_InvalidNetwork hr (takes_of rfl rfl rfl rfl) (by exact (pa_cons (pv 1) pa_nil)))) pss_nil))) (pss_one (ps_ret (pe_tupleK (K := K) (by rfl) T.n_tuple (pv 0)))))), ?_⟩
  · obtain ⟨x, o, rfl, _⟩ := h
    rfl
  · obtain ⟨x, o, rfl, hx, hE0, hE1, hM⟩ := h
    walk_at "rd"
    refine ⟨_, _, rfl, hx, fun H1 S1 => ?_⟩
    have hx1 := sqx_same hx S1
    walk_at "rd"
    cases o with
    | none =>
      refine rd_iT ?_
      walk_at "rd"
      exact fun d hd => hE0 rfl H1 d S1 hd
    | some xs =>
      refine rd_iF ?_
      walk_at "rd"
      obtain ⟨b, hb⟩ := hx1.b
      obtain ⟨a, rfl, hs⟩ := hx1.any
      refine rd_lenB hs ?_
      walk_at "rd"
      by_cases h0 : xs = []
      · subst h0
        refine iteT' rfl ?_
        walk_at "rd"
        exact fun d hd => hE1 rfl H1 d S1 hd
      · obtain ⟨os, hk, hbad, hgood⟩ := hM xs rfl h0
        refine iteF' (by
          have : xs.length ≠ 0 := fun z => h0 (List.length_eq_zero_iff.mp z)
          simp; omega) ?_
        walk_at "rd"
        refine for_enumX (b := b) hb (fun R r => rd_cons (rd_var rfl (rd_nil r))) (fun i σ H2 => Same H H2 ∧ SqB H2 (.ref a) xs b ∧ (∃ o1 o2, σ = [some (.ref a), o1, o2]) ∧ ∀ j o', j < i → os[j]? = some o' → bel4 o' = true)
          ⟨S1, hb, ⟨_, _, rfl⟩, fun j o' h => absurd h (Nat.not_lt_zero j)⟩ (fun i σ H2 p => p.2.1) (fun i y σ H2 t H3 hy p ht S3 et => ?_) (fun σ H2 p => ?_)
        · obtain ⟨S2, hb2, ⟨o1, o2, rfl⟩, hg⟩ := p
          refine rd_gtup (Tup.of et) rfl ?_
          walk_at "rd"
          obtain ⟨oy, ho, ky⟩ := paired_get hk hy
          refine ⟨_, _, rfl, kin_same ky (S2.trans S3), ?_⟩
          walk_at "rd"
          cases hbo : bel4 oy with
          | false =>
            refine rd_iT ?_
            walk_at "rd"
            exact fun d hd => hbad i oy ho hg hbo H3 d (S2.trans S3) hd
          | true =>
            refine rd_iF ?_
            walk_at "rd"
            refine ⟨S2.trans S3, hb2.same S3, ⟨_, _, rfl⟩, fun j o' hj e => ?_⟩
            rcases Nat.lt_succ_iff_lt_or_eq.mp hj with h | h
            · exact hg j o' h e
            · subst h
              rw [ho] at e
              cases e
              exact hbo
        · obtain ⟨S2, hb2, ⟨o1, o2, rfl⟩, hg⟩ := p
          walk_at "rd"
          refine kTup_b hb2 fun H3 p S3 hp => ?_
          refine hgood (fun o ho => ?_) H3 p (S2.trans S3) hp
          obtain ⟨j, hj⟩ := List.getElem?_of_mem ho
          exact hg j o (by rw [paired_len hk]; exact (List.getElem?_eq_some_iff.mp hj).1) hj
end
end K65

namespace K65
open PySem PySem.Spec PyProof.Rows L2 KX
local macro_rules | `(tactic| walk_at "rd1") => `(tactic| first
  | with_reducible refine rd_seq ?_
  | with_reducible refine rd_asg ?_
  | ((with_reducible refine' rd_var ?rdv ?_); (case rdv => exact rfl))
  | with_reducible refine rd_c ?_
  | with_reducible refine rd_op ?_
  | with_reducible refine rd_un ?_
  | with_reducible refine rd_cons ?_
  | with_reducible refine rd_nil ?_
  | with_reducible refine rd_call ?_
  | with_reducible refine rd_cb ?_
  | with_reducible refine rd_tB ?_
  | with_reducible refine rd_test ?_
  | with_reducible refine rd_bl ?_
  | with_reducible refine rd_rI0 ?_
  | with_reducible refine rd_eqI ?_
  | with_reducible refine rd_neI ?_
  | with_reducible refine rd_rU ?_
  | with_reducible refine rd_name ?_
  | with_reducible refine rd_ifs ?_
  | with_reducible refine rd_and ?_
  | with_reducible refine rd_or ?_
  | with_reducible refine rd_not ?_
  | with_reducible refine rd_yes ?_
  | with_reducible refine rd_andV ?_
  | with_reducible refine rd_orV ?_
  | with_reducible refine rd_notV ?_
  | with_reducible refine rd_if ?_
  | with_reducible refine rd_isN ?_
  | with_reducible refine rd_iT ?_
  | with_reducible refine rd_iF ?_
  | with_reducible refine rd_ret ?_
  | with_reducible refine rd_retN ?_
  | with_reducible refine rd_drop ?_
  | with_reducible refine rd_next ?_
  | with_reducible refine rd_cont ?_
  | with_reducible refine rd_brk ?_
  | with_reducible refine rd_nx ?_
  | with_reducible refine rd_rt ?_
  | with_reducible refine rd_ct ?_
  | with_reducible refine rd_bk ?_
  | with_reducible refine rd_par ?_
  | with_reducible refine rd_par3 ?_
  | with_reducible refine rd_par2 ?_
  | with_reducible refine rd_par33 ?_
  | with_reducible refine rd_gcons ?_
  | with_reducible refine rd_gnil ?_
  | with_reducible refine rd_sub ?_
  | with_reducible refine rd_tup ?_
  | with_reducible refine rd_lst ?_
  | ((with_reducible refine rd_tupT ?hl ?_); (case hl => exact Nat.le_of_ble_eq_true rfl))
  | ((with_reducible refine rd_lstT ?hl ?_); (case hl => exact Nat.le_of_ble_eq_true rfl))
  | with_reducible refine rd_bm ?_
  | with_reducible refine rd_bm0 ?_
  | with_reducible refine rd_sl ?_
  | with_reducible refine rd_noP ?_
  | with_reducible refine rd_part ?_
  | with_reducible refine rd_int ?_
  | with_reducible refine rd_int1 ?_
  | with_reducible refine rd_fld ?_
  | with_reducible refine rd_then ?_
  | with_reducible refine rd_raise ?_
  | with_reducible refine rd_one ?_
  | with_reducible refine rd_sfld ?_
  | with_reducible refine rd_ilist ?_
  | with_reducible refine rd_itup ?_
  | with_reducible refine rd_rng1 ?_
  | with_reducible refine rd_enum ?_
  | with_reducible refine rd_enumT ?_)
local macro_rules | `(tactic| walk_at "rd") => `(tactic| repeat (walk_at "rd1"))
theorem Same.put {H H' : Hp} {D : Addr} {o : HO} (s : Same H H') (n : H D = none) : Same H (L2.upd H' D o) := fun c u h => by
  rw [upd_ne (fun z => by rw [z, n] at h; cases h)]
  exact s c u h
/-- a row sorted, as a tuple -/
def SrtAt (H : Hp) (q : Addr) (row : List Int) : Prop := ∃ ns : List Int, ns.Perm row ∧ ns.Pairwise (· ≤ ·) ∧ Tup H q (ns.map V.int)
theorem SrtAt.same {H H' : Hp} {q : Addr} {row : List Int} (h : SrtAt H q row) (s : Same H H') : SrtAt H' q row := by
  obtain ⟨ns, a, b, c⟩ := h
  exact ⟨ns, a, b, c.same s⟩
theorem paired_mono {α β : Type} {F G : α → β → Prop} {l : List α} {m : List β} (h : Paired F l m) (f : ∀ a b, F a b → G a b) : Paired G l m := by
  induction h with
  | nil => exact .nil
  | cons a _ ih => exact .cons (f _ _ a) ih
def emptyR (n : Nat) : List (List Int) := List.replicate n []
/-- all rows hold four at most -/
def Le4 (R : List (List Int)) : Prop := ∀ row ∈ R, row.length ≤ 4
def spLinks (K : PySem.W.Frag) (C : Addr) : Sp := fun vs H Q E => ∃ (n : Nat) (z : V) (o : Option (List V)), vs = [.int (n : Nat), z] ∧ n < 1000 ∧ SqX K H z o ∧
  (o = none → ErrAt C E H n) ∧
  ∀ xs, o = some xs → ∃ es, Paired (LkIs K H n) xs es ∧
    (∀ (i : Nat) e R, es[i]? = some e → runP (emptyR n) (es.take i) = some R → okL R e = false → ErrAt C E H (n + i)) ∧
    (∀ R, runP (emptyR n) es = some R → R.length = n → Le4 R → ∀ H' p ps, Same H H' → H' p = some (.tup (ps.map V.ref)) → Paired (SrtAt H') ps R → Q (.ref p) H')
theorem runP_snoc : ∀ (es : List (Option (Int × Int))) (R : List (List Int)) (e : Option (Int × Int)), runP R (es ++ [e]) = (runP R es).bind fun R' => stepL R' e
  | [], R, e => by
    show (stepL R e).bind (fun R' => some R') = stepL R e
    cases stepL R e <;> rfl
  | f :: es, R, e => by
    show (stepL R f).bind (fun R' => runP R' (es ++ [e])) = ((stepL R f).bind fun R' => runP R' es).bind fun R' => stepL R' e
    cases h : stepL R f with
    | none => rfl
    | some R' => exact runP_snoc es R' e
theorem appR_len (R : List (List Int)) (a b : Int) : (appR R a b).length = R.length := by unfold appR; simp
theorem addR_len (R : List (List Int)) (e : Option (Int × Int)) : (addR R e).length = R.length := by
  cases e with
  | none => rfl
  | some p => obtain ⟨a, b⟩ := p; show (appR (appR R a b) b a).length = _; rw [appR_len, appR_len]
theorem stepL_some {R R' : List (List Int)} {e : Option (Int × Int)} (h : stepL R e = some R') : okL R e = true ∧ R' = addR R e := by
  unfold stepL at h
  by_cases z : okL R e = true
  · rw [if_pos z] at h
    exact ⟨z, (Option.some.inj h).symm⟩
  · rw [if_neg z] at h; cases h
theorem rowOf_mem {R : List (List Int)} {a : Int} : rowOf R a = [] ∨ rowOf R a ∈ R := by
  unfold rowOf
  by_cases h : a.toNat < R.length
  · right
    rw [List.getD_eq_getElem?_getD, List.getElem?_eq_getElem h]
    exact List.getElem_mem h
  · left
    rw [List.getD_eq_getElem?_getD, List.getElem?_eq_none (by omega)]
    rfl
theorem rowOf_app {R : List (List Int)} {a b c : Int} (ne : a.toNat ≠ c.toNat) : rowOf (appR R a b) c = rowOf R c := by
  unfold rowOf appR
  rw [List.getD_eq_getElem?_getD, List.getD_eq_getElem?_getD, List.getElem?_set_ne ne]
theorem rowOf_app_self {R : List (List Int)} {a b : Int} (h : a.toNat < R.length) : rowOf (appR R a b) a = rowOf R a ++ [b] := by
  show (List.set R a.toNat (rowOf R a ++ [b])).getD a.toNat [] = rowOf R a ++ [b]
  rw [List.getD_eq_getElem?_getD, List.getElem?_set_self h]; rfl
theorem Le4.app {R : List (List Int)} {a b : Int} (h : Le4 R) (l : (rowOf R a).length < 4) : Le4 (appR R a b) := fun row hr => by
  rcases List.mem_or_eq_of_mem_set hr with z | z
  · exact h row z
  · rw [z, List.length_append]; exact l
theorem Le4.step {R R' : List (List Int)} {e : Option (Int × Int)} (hR : Le4 R) (hne : ∀ a b, e = some (a, b) → a.toNat ≠ b.toNat) (h : stepL R e = some R') : Le4 R' := by
  obtain ⟨ok, rfl⟩ := stepL_some h
  match e, ok, hne with
  | none, ok, _ => exact hR
  | some (a, b), ok, hne =>
    have ok : (!decide (b ∈ rowOf R a) && (decide ((rowOf R a).length < 4) && decide ((rowOf R b).length < 4))) = true := ok
    simp only [Bool.and_eq_true, decide_eq_true_eq] at ok
    refine (hR.app (b := b) ok.2.1).app (b := a) ?_
    rw [rowOf_app (hne a b rfl)]
    exact ok.2.2
theorem Rows.app {H : Hp} {N : Addr} {rs : List Addr} {R : List (List Int)} (h : Rows H N rs R) {a b : Int} {r : Addr} (hr : rs[a.toNat]? = some r) :
    Rows (upd H r (.lst ((rowOf R a).map V.int ++ [.int b]))) N rs (appR R a b) := by
  have mem : r ∈ rs := List.mem_of_getElem? hr
  refine ⟨by rw [upd_ne (fun z => h.out (by rw [z]; exact mem))]; exact h.at_, ?_, h.nd, h.out⟩
  have e0 : (rowOf R a).map V.int ++ [V.int b] = (rowOf R a ++ [b]).map V.int := by simp
  rw [e0]
  have gen : ∀ {l : List Addr} {m : List (List Int)} (k : Nat) (row : List Int), Paired (fun r (row : List Int) => H r = some (.lst (row.map V.int))) l m → l.Nodup → l[k]? = some r →
      Paired (fun q (row' : List Int) => upd H r (.lst (row.map V.int)) q = some (.lst (row'.map V.int))) l (m.set k row) := by
    intro l m k row p
    induction p generalizing k with
    | nil => intro _ z; simp at z
    | @cons x y l m hxy q ih =>
      intro nd z
      have nd' := (List.nodup_cons.mp nd)
      cases k with
      | zero =>
        simp at z
        subst z
        refine .cons (by show upd H x _ x = _; rw [upd_same]) ?_
        have gen2 : ∀ {l : List Addr} {m : List (List Int)}, Paired (fun r (row : List Int) => H r = some (.lst (row.map V.int))) l m → x ∉ l → Paired (fun q (row' : List Int) => upd H x (.lst (row.map V.int)) q = some (.lst (row'.map V.int))) l m := by
          intro l m p
          induction p with
          | nil => intro _; exact .nil
          | @cons u v l m huv _ ih2 =>
            intro hx
            refine .cons ?_ (ih2 fun z => hx (List.mem_cons_of_mem _ z))
            show upd H x _ u = _
            rw [upd_ne (fun z => hx (by rw [z]; exact List.mem_cons_self))]
            exact huv
        exact gen2 q nd'.1
      | succ j =>
        simp at z
        refine .cons ?_ (ih j nd'.2 z)
        show upd H r _ x = _
        rw [upd_ne (fun e => nd'.1 (by rw [e]; exact List.mem_of_getElem? z))]
        exact hxy
  exact gen a.toNat (rowOf R a ++ [b]) h.rows h.nd hr
section
variable {P : Program} {w : World} {K : PySem.W.Frag} {mg : Str → Option Value} {base : Heap} (T : TX K mg)
theorem G_linked_sites : FnOk P w K mg base (L2.CX P w) 5 T.f_linked_sites T.d_linked_sites ["many", "links"] (spLinks K T.c_InvalidNetwork) := by
  refine T.F_linked_sites.okX sc_linked_sites (fun vs H Q E h => ?_) fun cdv A outer s H vs Q E hr h => ⟨_, (pss_cons (ps_if (pt_not (pt_val (pe_call (G_is_sequence T) (hr.mono (by decide)) (by rfl) T.m_is_sequence T.F_is_sequence.kp T.b_is_sequence .nil pass0 (by exact (pa_cons (pv 1) pa_nil))))) (pss_one (ps_raiseErrZ rfl T.E_InvalidNetwork hr (takes_of rfl rfl rfl rfl) (by exact (pa_cons (pv 0) pa_nil)))) pss_nil) (pss_cons (ps_setLc (i := 2) (own := [("_", 7)]) (by rfl) sc_linked_sites.nd rfl rfl (sw_true rfl rfl rfl (by decide +kernel)) (pi_range1 (by rfl) T.n_range (by exact (pa_cons (pv 0) pa_nil))) (blkOk_by (own := [("_", 7)]) (N := N_linked_sites) (sc := defScope s_linked_sites) (by decide +kernel)) (fun _ _ _ _ _ => (pg_name (i := 7) sc_linked_sites.nd rfl (.inl rfl))) (fun _ _ _ _ _ => pts_nil) (fun _ _ _ _ _ => (pe_lst pa_nil)) ) (pss_cons (ps_for (passes_of rfl) rfl (PI.or (pi_enumK (K := K) (by rfl) T.n_enumerate (by exact (pa_cons (pv 1) pa_nil))) (pi_enumTK (K := K) (by rfl) T.n_enumerate (by exact (pa_cons (pv 1) pa_nil)))) (pg_tupK (K := K) (n := 2) (by rfl) (pgs_cons (pg_name (i := 3) sc_linked_sites.nd rfl (.inl rfl)) (pgs_cons (pg_name (i := 4) sc_linked_sites.nd rfl (.inl rfl)) pgs_nil))) (pss_cons (ps_if (pt_not (pt_val (pe_call (G_can_link T) (hr.mono (by decide)) (by rfl) T.m_can_link T.F_can_link.kp T.b_can_link .nil pass0 (by exact (pa_cons (pv 2) (pa_cons (pv 4) pa_nil)))))) (pss_one (ps_raiseErrZ rfl T.E_InvalidNetwork hr (takes_of rfl rfl rfl rfl) (by exact (pa_cons (pe_op op_add (pv 0) (pv 3)) pa_nil)))) pss_nil) (pss_cons (ps_asg (pv 4) (KX.PG.or (pg_tupK (K := K) (n := 2) (by rfl) (pgs_cons (pg_name (i := 5) sc_linked_sites.nd rfl (.inl rfl)) (pgs_cons (pg_name (i := 6) sc_linked_sites.nd rfl (.inl rfl)) pgs_nil))) (pg_lstK (K := K) (n := 2) (by rfl) (pgs_cons (pg_name (i := 5) sc_linked_sites.nd rfl (.inl rfl)) (pgs_cons (pg_name (i := 6) sc_linked_sites.nd rfl (.inl rfl)) pgs_nil))))) (pss_cons (ps_expr (pe_bmK (K := K) PySem.F.slot_list_append PySem.F.type_list_append mt_append (pe_ix (ix_listK (K := K)) (pv 2) (pv 5) (fun _ _ => rfl)) (by exact (pa_cons (pv 6) pa_nil)))) (pss_one (ps_expr (pe_bmK (K := K) PySem.F.slot_list_append PySem.F.type_list_append mt_append (pe_ix (ix_listK (K := K)) (pv 2) (pv 6) (fun _ _ => rfl)) (by exact (pa_cons (pv 5) pa_nil))))))))) (pss_one (ps_ret (pe_tupleK (K := K) (by rfl) T.n_tuple (by exact (pe_lc (own := [("row", 8)]) (by rfl) sc_linked_sites.nd (pi_listK (K := K) (pv 2)) (blkOk_by (own := [("row", 8)]) (N := N_linked_sites) (sc := defScope s_linked_sites) (by decide +kernel)) (fun _ _ _ _ _ => (pg_name (i := 8) sc_linked_sites.nd rfl (.inl rfl))) (fun _ _ _ _ _ => pts_nil) (fun _ _ _ _ _ => (pe_tupleK (K := K) (by rfl) T.n_tuple (pe_callB (cr_sortedK (K := K)) (by rfl) T.n_sorted (by decide +kernel) (by exact (pa_cons (pv 8) pa_nil))))) )))))))), ?_⟩
  · obtain ⟨n, z, o, rfl, _⟩ := h
    rfl
  · obtain ⟨n, z, o, rfl, hn, hz, hE0, hM⟩ := h
    walk_at "rd"
    refine ⟨_, _, rfl, hz, fun H1 S1 => ?_⟩
    have hz1 := sqx_same hz S1
    walk_at "rd"
    cases o with
    | none =>
      refine rd_iT ?_
      walk_at "rd"
      exact fun d hd => hE0 rfl H1 d S1 hd
    | some xs =>
      refine rd_iF ?_
      walk_at "rd"
      obtain ⟨es, hes, hbad, hgood⟩ := hM xs rfl
      obtain ⟨b, hb0⟩ := hz.b
      have hb := hb0.same S1
      unfold tLc
      walk_at "rd"
      refine ⟨by omega, by omega, fun N hN => ?_⟩
      refine lc_range (lo := 0) (n := n) (fun i H' => Same H1 H' ∧ ∃ rs : List Addr, rs.length = i ∧ H' N = some (.lst (rs.map V.ref)) ∧ (∀ r ∈ rs, H' r = some (.lst []) ∧ H1 r = none) ∧ rs.Nodup ∧ N ∉ rs)
        ⟨Same.fresh hN, [], rfl, upd_same, by simp, List.nodup_nil, by simp⟩ (fun i H2 hi p => ?_) (fun H2 p => ?_)
      · obtain ⟨S2, rs, hl, hNr, hrs, nd, out⟩ := p
        refine ⟨rfl, ?_⟩
        walk_at "rd"
        intro r H3 hr0 S3 hr3
        have hN3 := S3 _ _ hNr
        have nr : N ≠ r := fun z => by rw [z, hr0] at hNr; cases hNr
        have nrs : r ∉ rs := fun z => by
          have := (hrs r z).1
          rw [hr0] at this; cases this
        refine ⟨_, hN3, by rw [List.length_map, hl]; exact Nat.lt_of_lt_of_le (by omega : i < 1000) (by decide), Same.put (S2.trans S3) hN, rs ++ [r], by simp [hl], by rw [upd_same]; simp, fun q hq => ?_, ?_, ?_⟩
        · rcases List.mem_append.mp hq with h | h
          · have nq : q ≠ N := fun z => out (by rw [← z]; exact h)
            rw [upd_ne nq]
            exact ⟨S3 _ _ (hrs q h).1, (hrs q h).2⟩
          · rw [List.mem_singleton.mp h, upd_ne (Ne.symm nr)]
            exact ⟨hr3, S2.free hr0⟩
        · exact List.nodup_append.mpr ⟨nd, by simp, fun a ha b hb => by
            rw [List.mem_singleton.mp hb]
            exact fun z => nrs (by rw [← z]; exact ha)⟩
        · intro z
          rcases List.mem_append.mp z with h | h
          · exact out h
          · exact nr (List.mem_singleton.mp h)
      · obtain ⟨S2, rs, hl, hNr, hrs, nd, out⟩ := p
        have R0 : Rows H2 N rs (emptyR n) := by
          refine ⟨hNr, ?_, nd, out⟩
          have gen : ∀ l : List Addr, (∀ r ∈ l, H2 r = some (.lst [])) → Paired (fun r (row : List Int) => H2 r = some (.lst (row.map V.int))) l (List.replicate l.length []) := by
            intro l
            induction l with
            | nil => intro _; exact .nil
            | cons x l ih => intro h; exact .cons (h x List.mem_cons_self) (ih fun r hr => h r (List.mem_cons_of_mem _ hr))
          unfold emptyR
          rw [← hl]
          exact gen rs fun r hr => (hrs r hr).1
        have fr : ∀ r ∈ rs, H r = none := fun r hr => S1.free (hrs r hr).2
        have lenX := paired_len hes
        walk_at "rd"
        refine for_enumX (b := b) (hb.same S2) (fun R r => rd_cons (rd_var rfl (rd_nil r))) (fun i σ H' => Same H H' ∧ SqB H' z xs b ∧ (∃ o1 o2 o3 o4, σ = [some (.int n), some z, some (.ref N), o1, o2, o3, o4, none, none]) ∧
            ∃ R, runP (emptyR n) (es.take i) = some R ∧ Rows H' N rs R ∧ Le4 R)
          ⟨S1.trans S2, hb.same S2, ⟨_, _, _, _, rfl⟩, emptyR n, rfl, R0, fun row hr => by rw [List.eq_of_mem_replicate hr]; decide⟩ (fun i σ H2 p => p.2.1) (fun i y σ H2 t H3 hy p ht S3 et => ?_) (fun σ H2 p => ?_)
        · obtain ⟨S2', hb2, ⟨o1, o2, o3, o4, rfl⟩, R, hR, hRows, h4⟩ := p
          obtain ⟨ey, he, ke⟩ := paired_get hes hy
          refine rd_gtup (Tup.of et) rfl ?_
          walk_at "rd"
          refine ⟨N, rs, R, y, ey, rfl, hRows.same S3, by rw [hl]; exact ke.same (S2'.trans S3), fun H4 S4 => ?_⟩
          have S5 : Same H H4 := (S2'.trans S3).trans S4
          have hRows4 := hRows.same (S3.trans S4)
          have ke4 := ke.same S5
          walk_at "rd"
          cases hok : okL R ey with
          | false =>
            refine rd_iT ?_
            walk_at "rd"
            exact fun d hd => hbad i ey R he hR hok H4 d S5 hd
          | true =>
            refine rd_iF ?_
            walk_at "rd"
            match ey, hok, ke4, he with
            | none, hok, _, _ => cases hok
            | some (a, c), hok, ke4, he =>
              cases ke4 with
              | ok hs a0 a1 b0 b1 ne =>
                obtain ⟨py, rfl, _⟩ := hs.any
                refine hs.unp rfl ?_
                walk_at "rd"
                obtain ⟨ra, era, hra, ata⟩ := hRows4.get a0 (by omega)
                have la : (rowOf R a).length ≤ 4 := by
                  rcases rowOf_mem (R := R) (a := a) with h | h
                  · rw [h]; decide
                  · exact h4 _ h
                have lc : (rowOf R c).length ≤ 4 := by
                  rcases rowOf_mem (R := R) (a := c) with h | h
                  · rw [h]; decide
                  · exact h4 _ h
                have nac : a.toNat ≠ c.toNat := by omega
                refine rd_ixL hRows4.at_ ata ?_
                refine rd_ty hra ?_
                walk_at "rd"
                refine rd_app hra (by rw [List.length_map]; omega) ?_
                walk_at "rd"
                have hR5 := hRows4.app (b := c) era
                have S6 : Same H (upd H4 ra (.lst ((rowOf R a).map V.int ++ [.int c]))) := Same.put S5 (fr ra (List.mem_of_getElem? era))
                generalize upd H4 ra (.lst ((rowOf R a).map V.int ++ [.int c])) = H5 at hR5 S6
                obtain ⟨rc, erc, hrc, atc⟩ := hR5.get b0 (by omega)
                refine rd_ixL hR5.at_ atc ?_
                refine rd_ty hrc ?_
                walk_at "rd"
                refine rd_app hrc (by rw [List.length_map, rowOf_app nac]; omega) ?_
                walk_at "rd"
                have hR6 := hR5.app (b := a) erc
                have S7 : Same H (upd H5 rc (.lst ((rowOf (appR R a c) c).map V.int ++ [.int a]))) := Same.put S6 (fr rc (List.mem_of_getElem? erc))
                refine ⟨S7, hb0.same S7, ⟨_, _, _, _, rfl⟩, addR R (some (a, c)), ?_, hR6, ?_⟩
                · rw [List.take_succ, he]
                  show runP (emptyR n) (es.take i ++ [some (a, c)]) = _
                  rw [runP_snoc, hR]
                  show stepL R (some (a, c)) = _
                  unfold stepL
                  rw [if_pos hok]
                · refine h4.step (e := some (a, c)) (fun x y e => by cases e; exact nac) ?_
                  unfold stepL
                  rw [if_pos hok]
        · obtain ⟨S2', hb2, ⟨o1, o2, o3, o4, rfl⟩, R, hR, hRows, h4⟩ := p
          rw [lenX, List.take_length] at hR
          walk_at "rd"
          refine ⟨_, rfl, ⟨_, SqL.of hRows.at_⟩, fun D hD => ?_⟩
          have lenR : rs.length = R.length := Paired.length hRows.rows
          refine lc_list (xs := rs.map V.ref) (fun i H' => Same H2 H' ∧ ∃ qs : List Addr, H' D = some (.lst (qs.map V.ref)) ∧ Paired (SrtAt H') qs (R.take i))
            ⟨Same.fresh hD, [], upd_same, .nil⟩ (fun i H' _ p => SqL.of (p.1 _ _ hRows.at_)) (fun i x H3 hx p => ?_) (fun H3 p => ?_)
          · obtain ⟨S3, qs, hq, hP⟩ := p
            rw [List.getElem?_map] at hx
            obtain ⟨r, hr', rfl⟩ := Option.map_eq_some_iff.mp hx
            obtain ⟨row, hrow, hrr⟩ := paired_get hRows.rows hr'
            have hi : i < n := by
              have := (List.getElem?_eq_some_iff.mp hr').1
              omega
            refine ⟨rfl, ?_⟩
            walk_at "rd"
            refine rd_sorted (S3 _ _ hrr) (by have := h4 row (List.mem_of_getElem? hrow); omega) fun ns pm srt => ?_
            intro u H4 hu S4 hu4
            walk_at "rd"
            refine rd_tupL hu4 ?_
            intro q H5 hq0 S5 hq5
            have S45 : Same H3 H5 := S4.trans S5
            have hqD := S45 _ _ hq
            have nq : q ≠ D := fun z => by rw [z, S4 _ _ hq] at hq0; cases hq0
            refine ⟨_, hqD, ?_, Same.put (S3.trans S45) hD, qs ++ [q], by rw [upd_same]; simp, ?_⟩
            · rw [List.length_map, paired_len hP, List.length_take]
              exact Nat.lt_of_lt_of_le (by omega : min i R.length < 1000) (by decide)
            · rw [List.take_succ, hrow]
              refine Paired.snoc (paired_mono hP fun a c h => ?_) ⟨ns, pm, srt, Tup.of (by rw [upd_ne nq]; exact hq5)⟩
              obtain ⟨ns', x1, x2, x3⟩ := h
              refine ⟨ns', x1, x2, ?_⟩
              have x4 := x3.same S45
              rcases x4 with x4 | ⟨o, x4⟩
              · exact Or.inl (by rw [upd_ne (fun z => by rw [z, hqD] at x4; cases x4)]; exact x4)
              · exact Or.inr ⟨o, by rw [upd_ne (fun z => by rw [z, hqD] at x4; cases x4)]; exact x4⟩
          · obtain ⟨S3, qs, hq, hP⟩ := p
            rw [List.length_map, lenR, List.take_length] at hP
            refine rd_tupL hq ?_
            intro q H5 hq0 S5 hq5
            exact hgood R hR (by omega) h4 H5 q qs ((S2'.trans S3).trans S5) hq5 (paired_mono hP fun a c h => h.same S5)
end
end K65

namespace K65
open PySem PySem.Spec PyProof.Rows L2 KX
local macro_rules | `(tactic| walk_at "rd1") => `(tactic| first
  | with_reducible refine rd_seq ?_
  | with_reducible refine rd_asg ?_
  | ((with_reducible refine' rd_var ?rdv ?_); (case rdv => exact rfl))
  | with_reducible refine rd_c ?_
  | with_reducible refine rd_op ?_
  | with_reducible refine rd_un ?_
  | with_reducible refine rd_cons ?_
  | with_reducible refine rd_nil ?_
  | with_reducible refine rd_call ?_
  | with_reducible refine rd_cb ?_
  | with_reducible refine rd_tB ?_
  | with_reducible refine rd_test ?_
  | with_reducible refine rd_bl ?_
  | with_reducible refine rd_rI0 ?_
  | with_reducible refine rd_eqI ?_
  | with_reducible refine rd_neI ?_
  | with_reducible refine rd_rU ?_
  | with_reducible refine rd_name ?_
  | with_reducible refine rd_ifs ?_
  | with_reducible refine rd_and ?_
  | with_reducible refine rd_or ?_
  | with_reducible refine rd_not ?_
  | with_reducible refine rd_yes ?_
  | with_reducible refine rd_andV ?_
  | with_reducible refine rd_orV ?_
  | with_reducible refine rd_notV ?_
  | with_reducible refine rd_if ?_
  | with_reducible refine rd_isN ?_
  | with_reducible refine rd_iT ?_
  | with_reducible refine rd_iF ?_
  | with_reducible refine rd_ret ?_
  | with_reducible refine rd_retN ?_
  | with_reducible refine rd_drop ?_
  | with_reducible refine rd_next ?_
  | with_reducible refine rd_cont ?_
  | with_reducible refine rd_brk ?_
  | with_reducible refine rd_nx ?_
  | with_reducible refine rd_rt ?_
  | with_reducible refine rd_ct ?_
  | with_reducible refine rd_bk ?_
  | with_reducible refine rd_par ?_
  | with_reducible refine rd_par3 ?_
  | with_reducible refine rd_par2 ?_
  | with_reducible refine rd_par33 ?_
  | with_reducible refine rd_gcons ?_
  | with_reducible refine rd_gnil ?_
  | with_reducible refine rd_sub ?_
  | with_reducible refine rd_tup ?_
  | with_reducible refine rd_lst ?_
  | ((with_reducible refine rd_tupT ?hl ?_); (case hl => exact Nat.le_of_ble_eq_true rfl))
  | ((with_reducible refine rd_lstT ?hl ?_); (case hl => exact Nat.le_of_ble_eq_true rfl))
  | with_reducible refine rd_bm ?_
  | with_reducible refine rd_bm0 ?_
  | with_reducible refine rd_sl ?_
  | with_reducible refine rd_noP ?_
  | with_reducible refine rd_part ?_
  | with_reducible refine rd_int ?_
  | with_reducible refine rd_int1 ?_
  | with_reducible refine rd_fld ?_
  | with_reducible refine rd_then ?_
  | with_reducible refine rd_raise ?_
  | with_reducible refine rd_one ?_
  | with_reducible refine rd_sfld ?_
  | with_reducible refine rd_ilist ?_
  | with_reducible refine rd_itup ?_
  | with_reducible refine rd_rng1 ?_
  | with_reducible refine rd_enum ?_
  | with_reducible refine rd_enumT ?_)
local macro_rules | `(tactic| walk_at "rd") => `(tactic| repeat (walk_at "rd1"))
/-- a walk in a comprehension, from any start -/
theorem it_wk {J : It} {n : Nat} {G : Hp → Prop} {Y : Nat → Hp → V → Hp → Prop} (w : Walk J n G Y) {T : V → Hp → (Hp → Prop) → Prop} {Qd : Hp → Prop} {H0 : Hp}
    (Pv : Nat → Hp → Prop) (h0 : Pv 0 H0) (hG : ∀ i H, i ≤ n → Pv i H → G H)
    (hs : ∀ i x H H', i < n → Pv i H → Y i H x H' → T x H' (Pv (i + 1))) (hd : ∀ H, Pv n H → Qd H) :
    ∃ W : Nat → Nat → Hp → Prop, (∃ m, W 0 m H0) ∧ ∀ i m H, W i m H →
      (J.stop i H ∧ Qd H) ∨ (J.go i H ∧ ∃ Nx : Hp → Prop, (∀ H', Nx H' → ∃ m', m' < m ∧ W (i + 1) m' H') ∧ ∀ x H', J.yld i H x H' → T x H' Nx) := by
  refine ⟨fun i m H => m = n - i ∧ i ≤ n ∧ Pv i H, ⟨n, by simp, Nat.zero_le _, h0⟩, ?_⟩
  rintro i m H ⟨rfl, hi, p⟩
  have q := hG i H hi p
  by_cases hlt : i < n
  · exact Or.inr ⟨w.goes i H hlt q, Pv (i + 1), fun H' z => ⟨n - (i + 1), by omega, rfl, hlt, z⟩, fun x H' y => hs i x H H' hlt p (w.yields i H x H' hlt q y)⟩
  · have e : i = n := by omega
    subst e
    exact Or.inl ⟨w.stops H q, hd H p⟩
/-! ### what is no instance stays -/
def Sn (H H' : Hp) : Prop := ∀ a o, (∀ C dx fs, o ≠ .ins C dx fs) → H a = some o → H' a = some o
theorem Sn.same {H H' : Hp} (s : Same H H') : Sn H H' := fun a o _ h => s a o h
theorem Sn.trans {H H1 H2 : Hp} (a : Sn H H1) (b : Sn H1 H2) : Sn H H2 := fun c o n h => b c o n (a c o n h)
theorem tyx_sn {K : PySem.W.Frag} {H H' : Hp} {x : V} {n : String} (h : TyX K H x (.type n)) (s : Sn H H') : TyX K H' x (.type n) := by
  cases h with
  | base h =>
    refine .base ?_
    cases h with
    | lst e => exact .lst (s _ _ (fun _ _ _ z => nomatch z) e)
    | frz e => exact .frz (s _ _ (fun _ _ _ z => nomatch z) e)
    | tup e => exact .tup (s _ _ (fun _ _ _ z => nomatch z) e)
    | dK e => exact .dK (s _ _ (fun _ _ _ z => nomatch z) e)
    | dT e => exact .dT (s _ _ (fun _ _ _ z => nomatch z) e)
    | _ => constructor
  | byt b => exact .byt b
  | set e => exact .set (s _ _ (fun _ _ _ z => nomatch z) e)
  | kList e c => exact .kList e c
  | kTuple e c => exact .kTuple e c
  | kDict e c => exact .kDict e c
  | fTuple e => exact .fTuple (s _ _ (fun _ _ _ z => nomatch z) e)
  | fDict e => exact .fDict (s _ _ (fun _ _ _ z => nomatch z) e)
theorem tup_sn {H H' : Hp} {a : Addr} {xs : List V} (h : Tup H a xs) (s : Sn H H') : Tup H' a xs := by
  rcases h with h | ⟨o, h⟩
  · exact Or.inl (s _ _ (fun _ _ _ z => nomatch z) h)
  · exact Or.inr ⟨o, s _ _ (fun _ _ _ z => nomatch z) h⟩
theorem kin_sn {K : PySem.W.Frag} {H H' : Hp} {x : V} {o : Option Int} (h : Kin K H x o) (s : Sn H H') : Kin K H' x o := by
  cases h with
  | int i => exact .int i
  | oth t h1 h2 h3 => exact .oth (tyx_sn t s) h1 h2 h3
theorem sqx_sn {K : PySem.W.Frag} {H H' : Hp} {x : V} {o : Option (List V)} (h : SqX K H x o) (s : Sn H H') : SqX K H' x o := by
  cases h with
  | lst h => exact .lst (s _ _ (fun _ _ _ z => nomatch z) h)
  | tup h => exact .tup (tup_sn h s)
  | oth t h1 h2 => exact .oth (tyx_sn t s) h1 h2
theorem lk_sn {K : PySem.W.Frag} {H H' : Hp} {n : Nat} {x : V} {e : Option (Int × Int)} (h : LkIs K H n x e) (s : Sn H H') : LkIs K H' n x e := by
  cases h with
  | seq h => exact .seq (sqx_sn h s)
  | len h l => exact .len (sqx_sn h s) l
  | fst h k b => exact .fst (sqx_sn h s) (kin_sn k s) b
  | snd h k k' b => exact .snd (sqx_sn h s) (kin_sn k s) (kin_sn k' s) b
  | eq h a b => exact .eq (sqx_sn h s) a b
  | ok h a b c d e => exact .ok (sqx_sn h s) a b c d e
/-- all but s stays -/
def Ex (s : Addr) (H H' : Hp) : Prop := ∀ a o, a ≠ s → H a = some o → H' a = some o
theorem Ex.same {s : Addr} {H H' : Hp} (h : Same H H') : Ex s H H' := fun a o _ e => h a o e
theorem Ex.trans {s : Addr} {H H1 H2 : Hp} (a : Ex s H H1) (b : Ex s H1 H2) : Ex s H H2 := fun c o n h => b c o n (a c o n h)
theorem Ex.upd {s : Addr} {H : Hp} {o : HO} : Ex s H (upd H s o) := fun a u n h => by rw [upd_ne n]; exact h
theorem Ex.sn {s C dx : Addr} {fs : List (Str × V)} {H H' : Hp} (h : Ex s H H') (hs : H s = some (.ins C dx fs)) : Sn H H' := fun a o n e =>
  h a o (fun z => by rw [z, hs] at e; exact n _ _ _ (Option.some.inj e).symm) e
def ErrX (CI : Addr) (E : XK) (s : Addr) (H : Hp) (i : Int) : Prop := ∀ H' d, Ex s H H' → H' d = none → E (.ref CI) (some d) (upd H' d (.xd [(("at" : Str), .int i)]))
/-! ### the links of the rows -/
def rowE (k : Nat) (row : List Int) : List (Int × Int) := (row.filter fun j => decide ((k : Int) < j)).map fun j => ((k : Int), j)
def edgesFrom (k : Nat) : List (List Int) → List (Int × Int)
  | [] => []
  | row :: rest => rowE k row ++ edgesFrom (k + 1) rest
theorem edges_snoc : ∀ (l : List (List Int)) (k : Nat) (r : List Int), edgesFrom k (l ++ [r]) = edgesFrom k l ++ rowE (k + l.length) r
  | [], k, r => by simp [edgesFrom]
  | x :: l, k, r => by
    show rowE k x ++ edgesFrom (k + 1) (l ++ [r]) = (rowE k x ++ edgesFrom (k + 1) l) ++ rowE (k + (l.length + 1)) r
    rw [edges_snoc l (k + 1) r, List.append_assoc]
    have e : k + 1 + l.length = k + (l.length + 1) := by omega
    rw [e]
theorem edges_take (Ns : List (List Int)) {i : Nat} {r : List Int} (h : Ns[i]? = some r) : edgesFrom 0 (Ns.take (i + 1)) = edgesFrom 0 (Ns.take i) ++ rowE i r := by
  have hi := (List.getElem?_eq_some_iff.mp h).1
  rw [List.take_succ, h]
  show edgesFrom 0 (Ns.take i ++ [r]) = _
  rw [edges_snoc]
  have e : 0 + (Ns.take i).length = i := by rw [List.length_take]; omega
  rw [e]
theorem rowE_take (k : Nat) {ns : List Int} {j : Nat} {y : Int} (h : ns[j]? = some y) : rowE k (ns.take (j + 1)) = rowE k (ns.take j) ++ (if decide ((k : Int) < y) = true then [((k : Int), y)] else []) := by
  rw [List.take_succ, h]
  unfold rowE
  rw [List.filter_append, List.map_append]
  congr 1
  by_cases z : (k : Int) < y <;> simp [z]
theorem rowE_len (k : Nat) (ns : List Int) : (rowE k ns).length ≤ ns.length := by
  unfold rowE
  rw [List.length_map]
  exact List.length_filter_le _ _
theorem edges_len : ∀ (k : Nat) (R : List (List Int)), (∀ row ∈ R, row.length ≤ 4) → (edgesFrom k R).length ≤ 4 * R.length
  | k, [], _ => Nat.le_refl _
  | k, r :: R, h => by
    have h1 := edges_len (k + 1) R fun row hr => h row (List.mem_cons_of_mem _ hr)
    have h2 := rowE_len k r
    have h3 := h r List.mem_cons_self
    show (rowE k r ++ edgesFrom (k + 1) R).length ≤ 4 * (R.length + 1)
    rw [List.length_append]
    omega
def RowT (H : Hp) (q : Addr) (ns : List Int) : Prop := Tup H q (ns.map V.int)
def PairAt (H : Hp) (q : Addr) (e : Int × Int) : Prop := H q = some (.tup [.int e.1, .int e.2])
theorem dp_pair {K : PySem.W.Frag} {H : Hp} {q : Addr} {e : Int × Int} (h : PairAt H q e) : Dp K H (.ref q) (dP e) := .tup (SqT.of h) (.cons (.int _) (.cons (.int _) .nil))
theorem dp_pairs {K : PySem.W.Frag} {H : Hp} {ps : List Addr} {L : List (Int × Int)} (h : Paired (PairAt H) ps L) : DpAll K H (ps.map V.ref) (L.map dP) := by
  induction h with
  | nil => exact .nil
  | cons a _ ih => exact .cons (dp_pair a) ih
/-- a network stands at p: the modes ms, the sorted rows R, the links L -/
structure NetAt (C : Addr) (H : Hp) (p : Addr) (ms : List Int) (R : List (List Int)) (L : List (Int × Int)) : Prop where
  ob : ∃ dx pm pn pl qs ps, H p = some (.ins C dx (putF "links" (.ref pl) (putF "_near" (.ref pn) (putF "modes" (.ref pm) [])))) ∧
    Tup H pm (ms.map V.int) ∧ H pn = some (.tup (qs.map V.ref)) ∧ Paired (RowT H) qs R ∧ H pl = some (.tup (ps.map V.ref)) ∧ Paired (PairAt H) ps L
theorem k_nm : ¬ (("_near" : Str) = "modes") := by decide +kernel
theorem k_lm : ¬ (("links" : Str) = "modes") := by decide +kernel
theorem k_ln : ¬ (("links" : Str) = "_near") := by decide +kernel
theorem look_modes {a b c : V} : (putF "links" a (putF "_near" b (putF "modes" c []))).lookup ("modes" : Str) = some c := by
  rw [lookup_putF, if_neg (fun z => k_lm z.symm), lookup_putF, if_neg (fun z => k_nm z.symm), lookup_putF, if_pos rfl]
theorem look_links {a b c : V} : (putF "links" a (putF "_near" b (putF "modes" c []))).lookup ("links" : Str) = some a := by
  rw [lookup_putF, if_pos rfl]
theorem look_near {a b c : V} : (putF "links" a (putF "_near" b (putF "modes" c []))).lookup ("_near" : Str) = some b := by
  rw [lookup_putF, if_neg (fun z => k_ln z.symm), lookup_putF, if_pos rfl]
/-- sorted rows: what linked_sites makes of rows -/
def spNet (K : PySem.W.Frag) (C CI : Addr) : Sp := fun vs H Q E => ∃ (s dx : Addr) (x z : V) (o : Option (List V)), vs = [.ref s, x, z] ∧ H s = some (.ins C dx []) ∧ SqX K H x o ∧
  (o = none → ErrX CI E s H 0) ∧ (o = some [] → ErrX CI E s H 0) ∧
  ∀ xs, o = some xs → xs ≠ [] → ∃ os, Paired (Kin K H) xs os ∧
    (∀ (i : Nat) o, os[i]? = some o → (∀ j o', j < i → os[j]? = some o' → bel4 o' = true) → bel4 o = false → ErrX CI E s H i) ∧
    ((∀ o ∈ os, bel4 o = true) → xs.length < 1000 ∧ ∃ ms : List Int, xs = ms.map V.int ∧ ∃ o2, SqX K H z o2 ∧ (o2 = none → ErrX CI E s H ms.length) ∧
      ∀ zs, o2 = some zs → ∃ es, Paired (LkIs K H ms.length) zs es ∧
        (∀ (i : Nat) e R, es[i]? = some e → runP (emptyR ms.length) (es.take i) = some R → okL R e = false → ErrX CI E s H (ms.length + i)) ∧
        (∀ R, runP (emptyR ms.length) es = some R → Le4 R → ∀ H' R', Ex s H H' → Paired (fun (a b : List Int) => a.Perm b ∧ a.Pairwise (· ≤ ·)) R' R → NetAt C H' s ms R' (edgesFrom 0 R') → Q .non H'))
section
variable {P : Program} {w : World} {K : PySem.W.Frag} {mg : Str → Option Value} {base : Heap} (T : TX K mg)
theorem G_Network_init : FnOk P w K mg base (L2.CX P w) 6 T.f_Network_init T.d_Network_init ["self", "modes", "links"] (spNet K T.c_Network T.c_InvalidNetwork) := by
  refine T.F_Network_init.okX sc_Network_init (fun vs H Q E h => ?_) fun cdv A outer s H vs Q E hr h => ⟨_, (pss_cons (ps_fldK (K := K) (pv 0) (pe_call (G_checked_modes T) (hr.mono (by decide)) (by rfl) T.m_checked_modes T.F_checked_modes.kp T.b_checked_modes .nil (passes_call (takes_of rfl rfl rfl rfl) fun _ _ _ _ z => z) (by exact (pa_cons (pv 1) pa_nil)))) (pss_cons (ps_fldK (K := K) (pv 0) (pe_call (G_linked_sites T) (hr.mono (by decide)) (by rfl) T.m_linked_sites T.F_linked_sites.kp T.b_linked_sites .nil (passes_call (takes_of rfl rfl rfl rfl) fun _ _ _ _ z => z) (by exact (pa_cons (pe_callB (cr_lenK (K := K)) (by rfl) T.n_len (by decide +kernel) (by exact (pa_cons (pe_fldK (K := K) (pv 0)) pa_nil))) (pa_cons (pv 2) pa_nil))))) (pss_one (ps_fldK (K := K) (pv 0) (pe_tupleK (K := K) (by rfl) T.n_tuple (by exact (pe_lc2 (own := [("one", 3), ("near", 4), ("other", 5)]) (vs1 := [5]) (by rfl) sc_Network_init.nd (pi_enumTK (K := K) (by rfl) T.n_enumerate (by exact (pa_cons (pe_fldK (K := K) (pv 0)) pa_nil))) (blkOk_by (own := [("one", 3), ("near", 4), ("other", 5)]) (N := N_Network_init) (sc := defScope s_Network_init) (by decide +kernel)) (by decide) (fun _ _ _ _ _ => (pg_tupK (K := K) (n := 2) (by rfl) (pgs_cons (pg_name (i := 3) sc_Network_init.nd rfl (.inl rfl)) (pgs_cons (pg_name (i := 4) sc_Network_init.nd rfl (.inl rfl)) pgs_nil)))) (fun _ _ _ _ _ => pts_nil) (fun _ _ _ _ _ => (by exact (pi_tupK (K := K) (pv 4)))) (fun _ _ _ _ _ => (pg_name (i := 5) sc_Network_init.nd rfl (.inl rfl))) (fun _ _ _ _ _ => pts_one (pt_cmpR op_lt (pv 3) (pv 5) (nomark _))) (fun _ _ _ _ _ => (pe_tup (pa_cons (pv 3) (pa_cons (pv 5) pa_nil)))) ))))))), ?_⟩
  · obtain ⟨s, dx, x, z, o, rfl, _⟩ := h
    rfl
  · obtain ⟨s', dx, x, z, o, rfl, hs, hx, hE0, hE1, hM⟩ := h
    have sn : ∀ {H' : Hp}, Ex s' H H' → Sn H H' := fun h => h.sn hs
    walk_at "rd"
    refine ⟨x, o, rfl, hx, fun e H' d S hd => hE0 e H' d (.same S) hd, fun e H' d S hd => hE1 e H' d (.same S) hd, fun xs e h0 => ?_⟩
    obtain ⟨os, hos, hbad, hgood⟩ := hM xs e h0
    refine ⟨os, hos, fun i o h1 h2 h3 H' d S hd => hbad i o h1 h2 h3 H' d (.same S) hd, fun hall H1 pm S1 hpm => ?_⟩
    obtain ⟨hl, ms, rfl, o2, hz, hF0, hF⟩ := hgood hall
    walk_at "rd"
    refine ⟨s', _, dx, _, rfl, S1 _ _ hs, T.C_Network, T.A_Network_modes, by decide, ?_⟩
    have X2 : Ex s' H (upd H1 s' (.ins T.c_Network dx (putF "modes" (.ref pm) []))) := (Ex.same S1).trans .upd
    have hs2 : upd H1 s' (.ins T.c_Network dx (putF "modes" (.ref pm) [])) s' = some (.ins T.c_Network dx (putF "modes" (.ref pm) [])) := upd_same
    have hpm2 : Tup (upd H1 s' (.ins T.c_Network dx (putF "modes" (.ref pm) []))) pm (ms.map V.int) := tup_sn hpm ((Ex.upd (s := s')).sn (S1 _ _ hs))
    generalize upd H1 s' (.ins T.c_Network dx (putF "modes" (.ref pm) [])) = H2 at X2 hs2 hpm2
    walk_at "rd"
    refine ⟨s', _, dx, _, _, rfl, hs2, T.C_Network, T.A_Network_modes, by rw [lookup_putF, if_pos rfl], ?_⟩
    walk_at "rd"
    refine rd_lenTup hpm2 ?_
    walk_at "rd"
    rw [List.length_map]
    have len : ms.length < 1000 := by simpa using hl
    refine ⟨ms.length, z, o2, rfl, len, sqx_sn hz (sn X2), fun e H' d S hd => hF0 e H' d (X2.trans (.same S)) hd, fun zs e => ?_⟩
    obtain ⟨es, hes, hbad2, hgood2⟩ := hF zs e
    refine ⟨es, paired_mono hes fun a b h => lk_sn h (sn X2), fun i e R h1 h2 h3 H' d S hd => hbad2 i e R h1 h2 h3 H' d (X2.trans (.same S)) hd, fun R hR lR h4R H3 pn qs S3 hpn hqs => ?_⟩
    walk_at "rd"
    refine ⟨s', _, dx, _, rfl, S3 _ _ hs2, T.C_Network, T.A_Network__near, by show 1 < 1000; decide, ?_⟩
    have X4 : Ex s' H (upd H3 s' (.ins T.c_Network dx (putF "_near" (.ref pn) (putF "modes" (.ref pm) [])))) := (X2.trans (.same S3)).trans .upd
    have hs4 : upd H3 s' (.ins T.c_Network dx (putF "_near" (.ref pn) (putF "modes" (.ref pm) []))) s' = some (.ins T.c_Network dx (putF "_near" (.ref pn) (putF "modes" (.ref pm) []))) := upd_same
    have sn4 : Sn H3 (upd H3 s' (.ins T.c_Network dx (putF "_near" (.ref pn) (putF "modes" (.ref pm) [])))) := (Ex.upd (s := s')).sn (S3 _ _ hs2)
    have hpm4 := tup_sn (hpm2.same S3) sn4
    have hpn4 := sn4 _ _ (by intro _ _ _ z; cases z) hpn
    have hqs4 := paired_mono hqs fun q row (h : SrtAt H3 q row) => (show SrtAt _ q row from let ⟨ns, a, b, c⟩ := h; ⟨ns, a, b, tup_sn c sn4⟩)
    clear sn4
    generalize upd H3 s' (.ins T.c_Network dx (putF "_near" (.ref pn) (putF "modes" (.ref pm) []))) = H4 at X4 hs4 hpm4 hpn4 hqs4
    obtain ⟨R', hR', hqR⟩ : ∃ R' : List (List Int), Paired (fun (a b : List Int) => a.Perm b ∧ a.Pairwise (· ≤ ·)) R' R ∧ Paired (fun q (ns : List Int) => Tup H4 q (ns.map V.int)) qs R' := by
      clear hpn4 hpn hgood2 hqs hR lR h4R
      induction hqs4 with
      | nil => exact ⟨[], .nil, .nil⟩
      | cons h _ ih =>
        obtain ⟨ns, h1, h2, h3⟩ := h
        obtain ⟨R', a, b⟩ := ih
        exact ⟨ns :: R', .cons ⟨h1, h2⟩ a, .cons h3 b⟩
    walk_at "rd"
    unfold tLc2
    walk_at "rd"
    refine ⟨s', _, dx, _, _, rfl, hs4, T.C_Network, T.A_Network__near, by rw [lookup_putF, if_pos rfl], ?_⟩
    walk_at "rd"
    refine ⟨pn, _, rfl, SqT.of hpn4, fun D hD => ?_⟩
    have le' : ∀ row ∈ R', row.length ≤ 4 := by
      clear hqR hR lR hgood2 hqs hqs4
      induction hR' with
      | nil => intro row h; simp at h
      | @cons a b l m hab _ ih =>
        intro row h
        rcases List.mem_cons.mp h with e | e
        · rw [e, hab.1.length_eq]; exact h4R b List.mem_cons_self
        · exact ih (fun row h => h4R row (List.mem_cons_of_mem _ h)) row e
    have lqs := paired_len hqR
    have lR' := paired_len hR'
    refine it_wk (walk_enumT (K := K) (xs := qs.map V.ref)) (fun i H' => Same H4 H' ∧ ∃ ps : List Addr, H' D = some (.lst (ps.map V.ref)) ∧ Paired (PairAt H') ps (edgesFrom 0 (R'.take i)))
      ⟨Same.fresh hD, [], upd_same, .nil⟩ (fun i H' _ p => SqT.of (p.1 _ _ hpn4)) (fun i v H5 H6 hi p y => ?_) (fun H5 p => ?_)
    · obtain ⟨S5, ps, hps, hP⟩ := p
      obtain ⟨t, a, b, rfl, ht, rfl, ha, hb⟩ := y
      have ha : some (V.int (i : Nat)) = some a := ha
      cases ha
      have hb : (qs.map V.ref)[i]? = some b := hb
      rw [List.getElem?_map] at hb
      obtain ⟨q, hq, rfl⟩ := Option.map_eq_some_iff.mp hb
      obtain ⟨ns, hns, hqn⟩ := paired_get hqR hq
      have S6 : Same H5 (upd H5 t (.tup [.int (i : Nat), .ref q])) := Same.fresh ht
      have et : upd H5 t (.tup [.int (i : Nat), .ref q]) t = some (.tup [.int (i : Nat), .ref q]) := upd_same
      generalize upd H5 t (.tup [.int (i : Nat), .ref q]) = H6 at S6 et
      have hi' : i < ms.length := by
        rw [List.length_map] at hi
        omega
      have ln : ns.length ≤ 4 := le' ns (List.mem_of_getElem? hns)
      refine rd_gtup (Tup.of et) rfl ?_
      walk_at "rd"
      refine ⟨rfl, ?_⟩
      walk_at "rd"
      refine ⟨_, rfl, ⟨_, (hqn.same (S5.trans S6)).sq⟩, ?_⟩
      refine it_wk (walk_tup (K := K) (xs := ns.map V.int)) (fun j H' => Same H4 H' ∧ ∃ ps : List Addr, H' D = some (.lst (ps.map V.ref)) ∧ Paired (PairAt H') ps (edgesFrom 0 (R'.take i) ++ rowE i (ns.take j)))
        ⟨S5.trans S6, ps, S6 _ _ hps, by
          have e : rowE i (ns.take 0) = [] := rfl
          rw [e, List.append_nil]
          exact paired_mono hP fun a b h => S6 _ _ h⟩ (fun j H' _ p => (hqn.same p.1).sq) (fun j v H7 H8 hj p y => ?_) (fun H7 p => ?_)
      · obtain ⟨rfl, hx⟩ := y
        obtain ⟨S7, ps, hps, hP⟩ := p
        rw [List.getElem?_map] at hx
        obtain ⟨y, hy, rfl⟩ := Option.map_eq_some_iff.mp hx
        walk_at "rd"
        refine ⟨rfl, ?_⟩
        walk_at "rd"
        rw [rowE_take i hy]
        by_cases z : decide ((i : Int) < y) = true
        · refine iteT' z ?_
          rw [if_pos z]
          walk_at "rd"
          intro u H9 hu S9 hu9
          have hps9 := S9 _ _ hps
          have nu : u ≠ D := fun z => by rw [z, hps] at hu; cases hu
          refine ⟨_, hps9, ?_, Same.put (S7.trans S9) hD, ps ++ [u], by rw [upd_same]; simp, ?_⟩
          · rw [List.length_map, paired_len hP, List.length_append]
            have h1 := edges_len 0 (R'.take i) fun row hr => le' row (List.mem_of_mem_take hr)
            have h2 := rowE_len i (ns.take j)
            rw [List.length_take] at h1 h2
            exact Nat.lt_of_lt_of_le (by omega : _ < 5000) (by decide)
          · rw [← List.append_assoc]
            refine Paired.snoc (paired_mono hP fun a c (h : PairAt _ a c) => ?_) ?_
            · show upd H9 D _ a = _
              have h' : H9 a = _ := S9 _ _ h
              rw [upd_ne (fun z => by rw [z, hps9] at h'; cases h')]
              exact h'
            · show upd H9 D _ u = _
              rw [upd_ne nu]
              exact hu9
        · refine iteF' (by simpa using z) ?_
          rw [if_neg z, List.append_nil]
          exact ⟨S7, ps, hps, hP⟩
      · obtain ⟨S7, ps, hps, hP⟩ := p
        rw [List.length_map, List.take_length] at hP
        refine ⟨S7, ps, hps, ?_⟩
        rw [edges_take R' hns]
        exact hP
    · obtain ⟨S5, ps, hps, hP⟩ := p
      rw [List.length_map, lqs, List.take_length] at hP
      refine rd_tupL hps ?_
      intro pl H6 hpl S6 hpl6
      walk_at "rd"
      have S46 := S5.trans S6
      refine ⟨s', _, dx, _, rfl, S46 _ _ hs4, T.C_Network, T.A_Network_links, ?_, ?_⟩
      · have e : putF "_near" (V.ref pn) (putF "modes" (V.ref pm) []) = [(("modes" : Str), V.ref pm), ("_near", V.ref pn)] := by
          show (if ("modes" : Str) = "_near" then _ else (("modes" : Str), V.ref pm) :: putF "_near" (V.ref pn) []) = _
          rw [if_neg (fun z => k_nm z.symm)]
          rfl
        rw [e]
        show 2 < 1000
        decide
      walk_at "rd"
      have X7 : Ex s' H (upd H6 s' (.ins T.c_Network dx (putF "links" (.ref pl) (putF "_near" (.ref pn) (putF "modes" (.ref pm) []))))) := (X4.trans (.same S46)).trans .upd
      have sn7 : Sn H6 (upd H6 s' (.ins T.c_Network dx (putF "links" (.ref pl) (putF "_near" (.ref pn) (putF "modes" (.ref pm) []))))) := (Ex.upd (s := s')).sn (S46 _ _ hs4)
      refine hgood2 R hR h4R _ R' X7 hR' ⟨dx, pm, pn, pl, qs, ps, upd_same, tup_sn (hpm4.same S46) sn7, sn7 _ _ (by intro _ _ _ z; cases z) (S46 _ _ hpn4), paired_mono hqR fun a b h => tup_sn (Tup.same h S46) sn7, sn7 _ _ (by intro _ _ _ z; cases z) hpl6, paired_mono hP fun a b (h : PairAt _ a b) => sn7 _ _ (by intro _ _ _ z; cases z) (S6 _ _ h)⟩
/-- == of two networks -/
def spEqN (K : PySem.W.Frag) (C : Addr) : Sp := fun vs H Q _ => ∃ (p : Addr) (y : V) (ms : List Int) (R : List (List Int)) (L : List (Int × Int)), vs = [.ref p, y] ∧ NetAt C H p ms R L ∧ ms.length < 1000 ∧ L.length < 1000 ∧
  ((∃ n, TyX K H y (.type n) ∧ PySem.W.kitOne K (.type n) (.ref C) = some false ∧ Q (.bl false) H) ∨
   (∃ q ms' R' L', y = .ref q ∧ NetAt C H q ms' R' L' ∧ ms'.length < 1000 ∧ L'.length < 1000 ∧ Q (.bl (decide (ms = ms') && decide (L = L'))) H))
theorem G_Network_eq : FnOk P w K mg base CX0 1 T.f_Network_eq T.d_Network_eq ["self", "other"] (spEqN K T.c_Network) := by
  refine T.F_Network_eq.ok sc_Network_eq (fun vs H Q E h => ?_) fun cdv A outer s H vs Q E hr h => ⟨_, (pss_one (ps_ret (pe_and (pe_callB (cr_isiK (K := K)) (by rfl) T.n_isinstance (by decide +kernel) (by exact (pa_cons (pv 1) (pa_cons (pe_glob (v := .ref T.c_Network) rfl T.m_Network rfl) pa_nil)))) (pe_and (pe_cmpR (op_eqDK (K := K) hr.units) (pe_fldK (K := K) (pv 0)) (pe_fldK (K := K) (pv 1)) (nomark _)) (pe_one (pe_cmpR (op_eqDK (K := K) hr.units) (pe_fldK (K := K) (pv 0)) (pe_fldK (K := K) (pv 1)) (nomark _))))))), ?_⟩
  · obtain ⟨p, y, ms, R, L, rfl, _⟩ := h
    rfl
  · obtain ⟨p, y, ms, R, L, rfl, hN, l1, l2, h⟩ := h
    walk_at "rd"
    obtain ⟨dx, pm, pn, pl, qs, ps, hp, hpm, hpn, hqs, hpl, hps⟩ := hN.ob
    rcases h with ⟨n, ty, kit, hQ⟩ | ⟨q, ms', R', L', rfl, hN', l1', l2', hQ⟩
    · refine ⟨_, _, _, _, false, rfl, .own _, ty, kit, ?_⟩
      walk_at "rd"
      exact hQ
    · obtain ⟨dx', pm', pn', pl', qs', ps', hp', hpm', hpn', hqs', hpl', hps'⟩ := hN'.ob
      refine ⟨_, _, _, _, true, rfl, .own _, T.I_Network.ty hp', T.I_Network.kit, ?_⟩
      walk_at "rd"
      refine ⟨p, _, dx, _, _, rfl, hp, T.C_Network, T.A_Network_modes, look_modes, ?_⟩
      walk_at "rd"
      refine ⟨q, _, dx', _, _, rfl, hp', T.C_Network, T.A_Network_modes, look_modes, ?_⟩
      refine ⟨.tuple (ms.map PyData.int), .tuple (ms'.map PyData.int), .tup hpm.sq (dA_ints K H ms), .tup hpm'.sq (dA_ints K H ms'), dA_sh ms, dA_sh ms', ?_⟩
      have e1 : PyData.eqv (.tuple (ms.map PyData.int)) (.tuple (ms'.map PyData.int)) = decide (ms = ms') := dA_eqv ms ms'
      rw [e1]
      walk_at "rd"
      by_cases h1 : ms = ms'
      · rw [decide_eq_true h1, Bool.true_and] at hQ
        refine iteT' (decide_eq_true h1) ?_
        walk_at "rd"
        refine ⟨p, _, dx, _, _, rfl, hp, T.C_Network, T.A_Network_links, look_links, ?_⟩
        walk_at "rd"
        refine ⟨q, _, dx', _, _, rfl, hp', T.C_Network, T.A_Network_links, look_links, ?_⟩
        refine ⟨.tuple (L.map dP), .tuple (L'.map dP), .tup (SqT.of hpl) (dp_pairs hps), .tup (SqT.of hpl') (dp_pairs hps'), dP_shT L, dP_shT L', ?_⟩
        have e2 : PyData.eqv (.tuple (L.map dP)) (.tuple (L'.map dP)) = decide (L = L') := dP_eqv L L'
        rw [e2]
        exact hQ
      · rw [decide_eq_false h1, Bool.false_and] at hQ
        refine iteF' (decide_eq_false h1) ?_
        walk_at "rd"
        exact hQ
end
end K65

namespace K65
open PySem PySem.Spec PyProof.Rows L2 KX
/-! ### lists of links -/
/-- whether a link meets a site -/
def inc (s : Int) (e : Int × Int) : Bool := decide (e.1 = s) || decide (e.2 = s)
def norm (e : Int × Int) : Int × Int := if e.1 ≤ e.2 then e else (e.2, e.1)
/-- the links, the lesser site first, unlike, at most d at a site -/
structure Good (n : Nat) (d : Nat) (L : List (Int × Int)) : Prop where
  rng : ∀ e ∈ L, 0 ≤ e.1 ∧ e.1 < e.2 ∧ e.2 < n
  nd : L.Nodup
  deg : ∀ s : Int, (L.filter (inc s)).length ≤ d
def lexlt (e f : Int × Int) : Prop := e.1 < f.1 ∨ e.1 = f.1 ∧ e.2 < f.2
/-- who is linked to a, in the order of the links, each way round -/
def nb (M : List (Int × Int)) (a : Int) : List Int := M.filterMap fun e => if e.1 = a then some e.2 else if e.2 = a then some e.1 else none
theorem nb_append (M M' : List (Int × Int)) (a : Int) : nb (M ++ M') a = nb M a ++ nb M' a := by unfold nb; exact List.filterMap_append
theorem nb_one (x y a : Int) : nb [(x, y)] a = if x = a then [y] else if y = a then [x] else [] := by
  unfold nb
  by_cases h1 : x = a
  · simp [h1]
  · by_cases h2 : y = a <;> simp [h1, h2]
theorem mem_nb {M : List (Int × Int)} {a b : Int} (h : b ∈ nb M a) : (a, b) ∈ M ∨ (b, a) ∈ M := by
  unfold nb at h
  obtain ⟨⟨x, y⟩, hm, he⟩ := List.mem_filterMap.mp h
  by_cases h1 : x = a
  · simp [h1] at he
    left; rw [← h1, ← he]; exact hm
  · by_cases h2 : y = a
    · simp [h1, h2] at he
      right; rw [← h2, ← he]; exact hm
    · simp [h1, h2] at he
theorem nb_mem {M : List (Int × Int)} {a b : Int} (ne : a ≠ b) (h : (a, b) ∈ M ∨ (b, a) ∈ M) : b ∈ nb M a := by
  unfold nb
  rcases h with h | h
  · exact List.mem_filterMap.mpr ⟨_, h, by simp⟩
  · exact List.mem_filterMap.mpr ⟨_, h, by simp [Ne.symm ne]⟩
/-- the length of the row: how many links meet the site -/
theorem nb_len (M : List (Int × Int)) (a : Int) : (nb M a).length = (M.filter (inc a)).length := by
  induction M with
  | nil => rfl
  | cons e M ih =>
    obtain ⟨x, y⟩ := e
    have h : nb ((x, y) :: M) a = nb [(x, y)] a ++ nb M a := nb_append [(x, y)] M a
    rw [h, nb_one, List.length_append, ih]
    by_cases h1 : x = a
    · simp [inc, h1]; omega
    · by_cases h2 : y = a
      · simp [inc, h1, h2]; omega
      · simp [inc, h1, h2]
theorem inc_norm (a : Int) (e : Int × Int) : inc a (norm e) = inc a e := by
  unfold norm
  split
  · rfl
  · show (decide (e.2 = a) || decide (e.1 = a)) = (decide (e.1 = a) || decide (e.2 = a))
    exact Bool.or_comm _ _
theorem norm_inj {x y u v : Int} (h : norm (x, y) = norm (u, v)) : (x = u ∧ y = v) ∨ (x = v ∧ y = u) := by
  unfold norm at h
  simp only at h
  split at h <;> split at h <;> simp at h <;> omega
/-! ### running through good links -/
theorem addR_nb {n : Nat} {R : List (List Int)} {M : List (Int × Int)} {a b : Int} (l : R.length = n) (hR : ∀ c : Int, 0 ≤ c → c < n → rowOf R c = nb M c) (a0 : 0 ≤ a) (a1 : a < n) (b0 : 0 ≤ b) (b1 : b < n) (ne : a ≠ b) :
    ∀ c : Int, 0 ≤ c → c < n → rowOf (addR R (some (a, b))) c = nb (M ++ [(a, b)]) c := by
  intro c c0 c1
  have h : nb (M ++ [(a, b)]) c = nb M c ++ nb [(a, b)] c := nb_append _ _ _
  rw [h, nb_one]
  show rowOf (appR (appR R a b) b a) c = _
  by_cases ha : a = c
  · subst ha
    rw [if_pos rfl, rowOf_app (by omega), rowOf_app_self (by omega), hR a a0 a1]
  · rw [if_neg ha]
    by_cases hb : b = c
    · subst hb
      rw [if_pos rfl, rowOf_app_self (by rw [appR_len]; omega), rowOf_app (by omega), hR b b0 b1]
    · rw [if_neg hb, rowOf_app (by omega), rowOf_app (by omega), hR c c0 c1, List.append_nil]
/-- the entries in turn: each can be linked behind those before -/
def Runs (n : Nat) (M : List (Int × Int)) : Prop := ∀ (i : Nat) (e : Int × Int), M[i]? = some e →
  0 ≤ e.1 ∧ e.1 < n ∧ 0 ≤ e.2 ∧ e.2 < n ∧ e.1 ≠ e.2 ∧ e.2 ∉ nb (M.take i) e.1 ∧ (nb (M.take i) e.1).length < 4 ∧ (nb (M.take i) e.2).length < 4
theorem rowOf_empty (n : Nat) (c : Int) : rowOf (emptyR n) c = [] := by
  unfold rowOf emptyR
  rw [List.getD_eq_getElem?_getD, List.getElem?_replicate]
  split <;> rfl
theorem runs_nb {n : Nat} {M : List (Int × Int)} (h : Runs n M) : ∀ i, i ≤ M.length → ∃ R, runP (emptyR n) ((M.take i).map some) = some R ∧ R.length = n ∧ ∀ c : Int, 0 ≤ c → c < n → rowOf R c = nb (M.take i) c := by
  intro i
  induction i with
  | zero => intro _; exact ⟨emptyR n, rfl, by simp [emptyR], fun c _ _ => by rw [rowOf_empty]; rfl⟩
  | succ i ih =>
    intro hi
    obtain ⟨R, hR, hl, hr⟩ := ih (by omega)
    obtain ⟨e, he⟩ : ∃ e, M[i]? = some e := ⟨_, List.getElem?_eq_getElem (by omega)⟩
    obtain ⟨a, b⟩ := e
    obtain ⟨a0, a1, b0, b1, ne, h1, h2, h3⟩ := h i _ he
    have et : M.take (i + 1) = M.take i ++ [(a, b)] := by rw [List.take_succ, he]; rfl
    have ok : okL R (some (a, b)) = true := by
      show (!decide (b ∈ rowOf R a) && (decide ((rowOf R a).length < 4) && decide ((rowOf R b).length < 4))) = true
      rw [hr a a0 a1, hr b b0 b1, decide_eq_false h1, decide_eq_true h2, decide_eq_true h3]; rfl
    refine ⟨addR R (some (a, b)), ?_, by rw [addR_len]; exact hl, ?_⟩
    · rw [et, List.map_append]
      show runP (emptyR n) ((M.take i).map some ++ [some (a, b)]) = _
      rw [runP_snoc, hR]
      show stepL R (some (a, b)) = _
      unfold stepL
      rw [if_pos ok]
    · rw [et]
      exact addR_nb hl hr a0 a1 b0 b1 ne
theorem filter_len_le {M : List (Int × Int)} {p : Int × Int → Bool} {i : Nat} {e : Int × Int} (h : M[i]? = some e) (hp : p e = true) : ((M.take i).filter p).length < (M.filter p).length := by
  have hi := (List.getElem?_eq_some_iff.mp h).1
  have e1 : M = M.take (i + 1) ++ M.drop (i + 1) := (List.take_append_drop _ _).symm
  have et : M.take (i + 1) = M.take i ++ [e] := by rw [List.take_succ, h]; rfl
  have z : (M.filter p).length = ((M.take (i + 1)).filter p).length + ((M.drop (i + 1)).filter p).length := by
    have e2 : M.filter p = (M.take (i + 1)).filter p ++ (M.drop (i + 1)).filter p := by
      rw [← List.filter_append, List.take_append_drop]
    rw [e2, List.length_append]
  rw [z, et, List.filter_append, List.length_append]
  simp [hp]
  omega
theorem perm_filter_len {L M : List (Int × Int)} (h : L.Perm M) (p : Int × Int → Bool) : (L.filter p).length = (M.filter p).length := (h.filter p).length_eq
theorem map_norm_filter (M : List (Int × Int)) (a : Int) : ((M.map norm).filter (inc a)).length = (M.filter (inc a)).length := by
  rw [List.filter_map, List.length_map]
  have e : (inc a ∘ norm) = inc a := funext fun x => inc_norm a x
  rw [e]
/-- links, each way round, in any order -/
theorem runs_of {n : Nat} {L M : List (Int × Int)} (g : Good n 4 L) (h : (M.map norm).Perm L) : Runs n M := by
  intro i e he
  have hm := List.mem_of_getElem? he
  have hi := (List.getElem?_eq_some_iff.mp he).1
  have hn : norm e ∈ L := h.mem_iff.mp (List.mem_map.mpr ⟨e, hm, rfl⟩)
  obtain ⟨r0, r1, r2⟩ := g.rng _ hn
  obtain ⟨x, y⟩ := e
  have rr : 0 ≤ x ∧ x < n ∧ 0 ≤ y ∧ y < n ∧ x ≠ y := by
    unfold norm at r0 r1 r2
    simp only at r0 r1 r2
    split at r0 <;> simp_all <;> omega
  obtain ⟨a0, a1, b0, b1, ne⟩ := rr
  refine ⟨a0, a1, b0, b1, ne, fun hb => ?_, ?_, ?_⟩
  · -- twice the same link
    have nd : (M.map norm).Nodup := h.nodup_iff.mpr g.nd
    have : ∃ f ∈ M.take i, norm f = norm (x, y) := by
      rcases mem_nb hb with z | z
      · exact ⟨_, z, rfl⟩
      · refine ⟨_, z, ?_⟩
        unfold norm
        simp only
        split <;> split <;> simp <;> omega
    obtain ⟨f, hf, hff⟩ := this
    obtain ⟨j, hj⟩ := List.getElem?_of_mem hf
    have hji : j < i := by
      have := (List.getElem?_eq_some_iff.mp hj).1
      rw [List.length_take] at this
      omega
    rw [List.getElem?_take_of_lt hji] at hj
    have e1 : (M.map norm)[j]? = some (norm (x, y)) := by rw [List.getElem?_map, hj]; simp [hff]
    have e2 : (M.map norm)[i]? = some (norm (x, y)) := by rw [List.getElem?_map, he]; rfl
    have := (List.getElem?_inj (by rw [List.length_map]; omega) nd).mp (e1.trans e2.symm)
    omega
  · rw [nb_len]
    show ((M.take i).filter (inc x)).length < 4
    have h1 := filter_len_le (p := inc x) he (by simp [inc])
    have h2 := map_norm_filter M x
    have h3 := perm_filter_len h (inc x)
    have h4 := g.deg x
    omega
  · rw [nb_len]
    show ((M.take i).filter (inc y)).length < 4
    have h1 := filter_len_le (p := inc y) he (by simp [inc])
    have h2 := map_norm_filter M y
    have h3 := perm_filter_len h (inc y)
    have h4 := g.deg y
    omega
/-! ### the links of the sorted rows -/
theorem lex_uniq : ∀ {L M : List (Int × Int)}, L.Pairwise lexlt → M.Pairwise lexlt → (∀ e, e ∈ L ↔ e ∈ M) → L = M
  | [], [], _, _, _ => rfl
  | [], m :: M, _, _, h => by have := (h m).mpr List.mem_cons_self; simp at this
  | l :: L, [], _, _, h => by have := (h l).mp List.mem_cons_self; simp at this
  | l :: L, m :: M, hl, hm, h => by
    obtain ⟨l1, l2⟩ := List.pairwise_cons.mp hl
    obtain ⟨m1, m2⟩ := List.pairwise_cons.mp hm
    have e : l = m := by
      rcases List.mem_cons.mp ((h l).mp List.mem_cons_self) with z | z
      · exact z
      · rcases List.mem_cons.mp ((h m).mpr List.mem_cons_self) with y | y
        · exact y.symm
        · have a := m1 l z
          have b := l1 m y
          exfalso
          unfold lexlt at a b
          omega
    subst e
    have : L = M := lex_uniq l2 m2 fun e => by
      constructor
      · intro he
        rcases List.mem_cons.mp ((h e).mp (List.mem_cons_of_mem _ he)) with z | z
        · exfalso
          have := l1 e he
          rw [z] at this
          unfold lexlt at this
          omega
        · exact z
      · intro he
        rcases List.mem_cons.mp ((h e).mpr (List.mem_cons_of_mem _ he)) with z | z
        · exfalso
          have := m1 e he
          rw [z] at this
          unfold lexlt at this
          omega
        · exact z
    rw [this]
theorem mem_edges : ∀ (R : List (List Int)) (k : Nat) (e : Int × Int), e ∈ edgesFrom k R ↔ ∃ (i : Nat) (row : List Int), R[i]? = some row ∧ e.1 = ((k + i : Nat) : Int) ∧ e.2 ∈ row ∧ e.1 < e.2
  | [], k, e => by simp [edgesFrom]
  | r :: R, k, e => by
    have ih := mem_edges R (k + 1) e
    show e ∈ rowE k r ++ edgesFrom (k + 1) R ↔ _
    rw [List.mem_append, ih]
    constructor
    · rintro (h | ⟨i, row, h1, h2, h3⟩)
      · unfold rowE at h
        obtain ⟨j, hj, rfl⟩ := List.mem_map.mp h
        obtain ⟨h1, h2⟩ := List.mem_filter.mp hj
        exact ⟨0, r, rfl, by simp, h1, by simpa using h2⟩
      · exact ⟨i + 1, row, by simpa using h1, by rw [h2]; omega, h3⟩
    · rintro ⟨i, row, h1, h2, h3, h4⟩
      cases i with
      | zero =>
        left
        simp at h1
        subst h1
        unfold rowE
        obtain ⟨x, y⟩ := e
        have h2 : x = (k : Int) := by simpa using h2
        subst h2
        exact List.mem_map.mpr ⟨y, List.mem_filter.mpr ⟨h3, by simpa using h4⟩, rfl⟩
      | succ i => exact .inr ⟨i, row, by simpa using h1, by rw [h2]; omega, h3, h4⟩
theorem edges_lex : ∀ (R : List (List Int)) (k : Nat), (∀ row ∈ R, row.Pairwise (· < ·)) → (edgesFrom k R).Pairwise lexlt
  | [], k, _ => .nil
  | r :: R, k, h => by
    show (rowE k r ++ edgesFrom (k + 1) R).Pairwise lexlt
    refine List.pairwise_append.mpr ⟨?_, edges_lex R (k + 1) fun row hr => h row (List.mem_cons_of_mem _ hr), fun a ha b hb => ?_⟩
    · unfold rowE
      refine List.pairwise_map.mpr (List.Pairwise.filter _ ((h r List.mem_cons_self).imp fun hab => .inr ⟨rfl, hab⟩))
    · unfold rowE at ha
      obtain ⟨j, _, rfl⟩ := List.mem_map.mp ha
      obtain ⟨i, row, _, e, _⟩ := (mem_edges R (k + 1) b).mp hb
      left
      show (k : Int) < b.1
      omega
theorem nb_nodup {M : List (Int × Int)} {a : Int} (h : ∀ i e, M[i]? = some e → e.1 ≠ e.2 ∧ e.2 ∉ nb (M.take i) e.1 ∧ e.1 ∉ nb (M.take i) e.2) : (nb M a).Nodup := by
  have gen : ∀ i, i ≤ M.length → (nb (M.take i) a).Nodup := by
    intro i
    induction i with
    | zero => intro _; exact .nil
    | succ i ih =>
      intro hi
      obtain ⟨e, he⟩ : ∃ e, M[i]? = some e := ⟨_, List.getElem?_eq_getElem (by omega)⟩
      obtain ⟨x, y⟩ := e
      obtain ⟨ne, h1, h2⟩ := h i _ he
      have et : M.take (i + 1) = M.take i ++ [(x, y)] := by rw [List.take_succ, he]; rfl
      rw [et, nb_append, nb_one]
      by_cases hx : x = a
      · rw [if_pos hx]
        subst hx
        exact List.nodup_append.mpr ⟨ih (by omega), by simp, fun u hu v hv => by
          rw [List.mem_singleton.mp hv]
          exact fun z => h1 (by rw [← z]; exact hu)⟩
      · rw [if_neg hx]
        by_cases hy : y = a
        · rw [if_pos hy]
          subst hy
          exact List.nodup_append.mpr ⟨ih (by omega), by simp, fun u hu v hv => by
            rw [List.mem_singleton.mp hv]
            exact fun z => h2 (by rw [← z]; exact hu)⟩
        · rw [if_neg hy, List.append_nil]
          exact ih (by omega)
  have := gen M.length (Nat.le_refl _)
  rwa [List.take_length] at this
theorem le_lt_of_nodup {l : List Int} (h : l.Pairwise (· ≤ ·)) (nd : l.Nodup) : l.Pairwise (· < ·) := by
  have : l.Pairwise (fun a b => a ≤ b ∧ a ≠ b) := h.and nd
  exact this.imp fun ⟨a, b⟩ => by omega
/-- what the rows of good links tell: the links again -/
theorem edges_back {n : Nat} {L M : List (Int × Int)} {R R' : List (List Int)} (g : Good n 4 L) (s : L.Pairwise lexlt) (h : (M.map norm).Perm L) (hR : runP (emptyR n) (M.map some) = some R)
    (p : Paired (fun (a b : List Int) => a.Perm b ∧ a.Pairwise (· ≤ ·)) R' R) : edgesFrom 0 R' = L := by
  have rs := runs_of g h
  obtain ⟨R0, hR0, hl, hr⟩ := runs_nb rs M.length (Nat.le_refl _)
  rw [List.take_length] at hR0 hr
  rw [hR] at hR0
  cases hR0
  have sym : ∀ i e, M[i]? = some e → e.1 ≠ e.2 ∧ e.2 ∉ nb (M.take i) e.1 ∧ e.1 ∉ nb (M.take i) e.2 := fun i e he => by
    obtain ⟨_, _, _, _, ne, h1, _⟩ := rs i e he
    refine ⟨ne, h1, fun z => h1 ?_⟩
    exact nb_mem ne ((mem_nb z).symm)
  have rowN : ∀ i row, R[i]? = some row → row = nb M ((i : Nat) : Int) ∧ i < n := fun i row e => by
    have hi := (List.getElem?_eq_some_iff.mp e).1
    have := hr ((i : Nat) : Int) (by omega) (by omega)
    unfold rowOf at this
    rw [List.getD_eq_getElem?_getD] at this
    have e' : R[((i : Nat) : Int).toNat]? = some row := by simpa using e
    rw [e'] at this
    exact ⟨this, by omega⟩
  have rowP : ∀ i row', R'[i]? = some row' → row'.Perm (nb M ((i : Nat) : Int)) ∧ row'.Pairwise (· ≤ ·) ∧ i < n := fun i row' e => by
    obtain ⟨row, h1, h2, h3⟩ := paired_get p e
    obtain ⟨h4, h5⟩ := rowN i row h1
    exact ⟨by rw [← h4]; exact h2, h3, h5⟩
  refine lex_uniq (edges_lex R' 0 fun row' hr' => ?_) s fun e => ?_
  · obtain ⟨i, hi⟩ := List.getElem?_of_mem hr'
    obtain ⟨h1, h2, _⟩ := rowP i row' hi
    exact le_lt_of_nodup h2 (h1.nodup_iff.mpr (nb_nodup sym))
  · rw [mem_edges]
    obtain ⟨x, y⟩ := e
    constructor
    · rintro ⟨i, row', h1, h2, h3, h4⟩
      obtain ⟨h5, _, h6⟩ := rowP i row' h1
      have h2 : x = (i : Int) := by simpa using h2
      subst h2
      have h4 : (i : Int) < y := h4
      have h7 := mem_nb (h5.mem_iff.mp h3)
      have : ∃ f ∈ M, norm f = ((i : Int), y) := by
        rcases h7 with z | z
        · exact ⟨_, z, by unfold norm; simp only; rw [if_pos (by omega)]⟩
        · exact ⟨_, z, by unfold norm; simp only; rw [if_neg (by omega)]⟩
      obtain ⟨f, hf, e⟩ := this
      exact h.mem_iff.mp (List.mem_map.mpr ⟨f, hf, e⟩)
    · intro he
      obtain ⟨r0, r1, r2⟩ := g.rng _ he
      have r0 : 0 ≤ x := r0
      have r1 : x < y := r1
      have r2 : y < n := r2
      obtain ⟨f, hf, e⟩ := List.mem_map.mp (h.mem_iff.mpr he)
      have lenR : R'.length = R.length := paired_len p
      have hx : x.toNat < R'.length := by omega
      refine ⟨x.toNat, R'[x.toNat], List.getElem?_eq_getElem hx, by simp; omega, ?_, r1⟩
      obtain ⟨h5, _, _⟩ := rowP x.toNat _ (List.getElem?_eq_getElem hx)
      have ex : ((x.toNat : Nat) : Int) = x := by omega
      rw [ex] at h5
      refine h5.mem_iff.mpr (nb_mem (by show x ≠ y; omega) ?_)
      show (x, y) ∈ M ∨ (y, x) ∈ M
      obtain ⟨u, v⟩ := f
      unfold norm at e
      simp only at e
      split at e
      · cases e; exact .inl hf
      · cases e; exact .inr hf
end K65

namespace K65
open PySem PySem.Spec PyProof.Rows L2 KX
local macro_rules | `(tactic| walk_at "rd1") => `(tactic| first
  | with_reducible refine rd_seq ?_
  | with_reducible refine rd_asg ?_
  | ((with_reducible refine' rd_var ?rdv ?_); (case rdv => exact rfl))
  | with_reducible refine rd_c ?_
  | with_reducible refine rd_op ?_
  | with_reducible refine rd_un ?_
  | with_reducible refine rd_cons ?_
  | with_reducible refine rd_nil ?_
  | with_reducible refine rd_call ?_
  | with_reducible refine rd_cb ?_
  | with_reducible refine rd_tB ?_
  | with_reducible refine rd_test ?_
  | with_reducible refine rd_bl ?_
  | with_reducible refine rd_rI0 ?_
  | with_reducible refine rd_eqI ?_
  | with_reducible refine rd_neI ?_
  | with_reducible refine rd_rU ?_
  | with_reducible refine rd_name ?_
  | with_reducible refine rd_ifs ?_
  | with_reducible refine rd_and ?_
  | with_reducible refine rd_or ?_
  | with_reducible refine rd_not ?_
  | with_reducible refine rd_yes ?_
  | with_reducible refine rd_andV ?_
  | with_reducible refine rd_orV ?_
  | with_reducible refine rd_notV ?_
  | with_reducible refine rd_if ?_
  | with_reducible refine rd_isN ?_
  | with_reducible refine rd_iT ?_
  | with_reducible refine rd_iF ?_
  | with_reducible refine rd_ret ?_
  | with_reducible refine rd_retN ?_
  | with_reducible refine rd_drop ?_
  | with_reducible refine rd_next ?_
  | with_reducible refine rd_cont ?_
  | with_reducible refine rd_brk ?_
  | with_reducible refine rd_nx ?_
  | with_reducible refine rd_rt ?_
  | with_reducible refine rd_ct ?_
  | with_reducible refine rd_bk ?_
  | with_reducible refine rd_par ?_
  | with_reducible refine rd_par3 ?_
  | with_reducible refine rd_par2 ?_
  | with_reducible refine rd_par33 ?_
  | with_reducible refine rd_gcons ?_
  | with_reducible refine rd_gnil ?_
  | with_reducible refine rd_sub ?_
  | with_reducible refine rd_tup ?_
  | with_reducible refine rd_lst ?_
  | ((with_reducible refine rd_tupT ?hl ?_); (case hl => exact Nat.le_of_ble_eq_true rfl))
  | ((with_reducible refine rd_lstT ?hl ?_); (case hl => exact Nat.le_of_ble_eq_true rfl))
  | with_reducible refine rd_bm ?_
  | with_reducible refine rd_bm0 ?_
  | with_reducible refine rd_sl ?_
  | with_reducible refine rd_noP ?_
  | with_reducible refine rd_part ?_
  | with_reducible refine rd_int ?_
  | with_reducible refine rd_int1 ?_
  | with_reducible refine rd_fld ?_
  | with_reducible refine rd_then ?_
  | with_reducible refine rd_raise ?_
  | with_reducible refine rd_one ?_
  | with_reducible refine rd_sfld ?_
  | with_reducible refine rd_ilist ?_
  | with_reducible refine rd_itup ?_
  | with_reducible refine rd_rng1 ?_
  | with_reducible refine rd_enum ?_
  | with_reducible refine rd_enumT ?_)
local macro_rules | `(tactic| walk_at "rd") => `(tactic| repeat (walk_at "rd1"))
theorem Deal.new {H : Hp} {p q a : Addr} {o : HO} (d : Deal H p q) (n : H a = none) : Deal (upd H a o) p q ∧ a ≠ p ∧ a ≠ q := by
  obtain ⟨ns, b, d⟩ := d
  exact ⟨⟨ns, b, DealAt.new d n⟩, (fun z => by have h := d.hp; rw [← z, n] at h; cases h), (fun z => by have h := d.hq; rw [← z, n] at h; cases h)⟩
theorem Deal.off {H : Hp} {p q a : Addr} {o : HO} (d : Deal H p q) (h1 : a ≠ p) (h2 : a ≠ q) : Deal (upd H a o) p q := by
  obtain ⟨ns, b, d⟩ := d
  exact ⟨ns, b, by rw [upd_ne (Ne.symm h1)]; exact d.hp, by rw [upd_ne (Ne.symm h2)]; exact d.hq, d.ne, d.nn, d.len, d.b0, d.b1⟩
theorem Fix.upd {p q D : Addr} {H H' : Hp} {o : HO} (f : Fix p q H H') (n : H D = none) : Fix p q H (L2.upd H' D o) := fun c u h1 h2 h => by
  rw [upd_ne (fun z => by rw [z, n] at h; cases h)]
  exact f c u h1 h2 h
theorem Fix.keep {H H' : Hp} {p q a : Addr} {o : HO} (f : Fix p q H H') (d : Deal H p q) (h : H a = some o) (n : ∀ xs, o ≠ .lst xs) : H' a = some o := by
  obtain ⟨ns, b, d⟩ := d
  refine f a o (fun e => ?_) (fun e => ?_) h
  · rw [e, d.hp] at h; exact n _ (Option.some.inj h).symm
  · rw [e, d.hq] at h; exact n _ (Option.some.inj h).symm
theorem Fix.free {H H' : Hp} {p q a : Addr} (f : Fix p q H H') (d : Deal H' p q) (h : H' a = none) : H a = none := by
  cases e : H a with
  | none => rfl
  | some o =>
    obtain ⟨ns, b, d⟩ := d
    by_cases h1 : a = p
    · rw [h1, d.hp] at h; cases h
    · by_cases h2 : a = q
      · rw [h2, d.hq] at h; cases h
      · rw [f a o h1 h2 e] at h; cases h
theorem map_erase {α β : Type} (f : α → β) : ∀ (l : List α) (i : Nat), (l.map f).eraseIdx i = (l.eraseIdx i).map f
  | [], _ => rfl
  | x :: l, 0 => rfl
  | x :: l, i + 1 => by
    show f x :: (l.map f).eraseIdx i = f x :: (l.eraseIdx i).map f
    rw [map_erase f l i]
theorem erase_perm {α : Type} : ∀ (l : List α) (i : Nat) (h : i < l.length), (l[i] :: l.eraseIdx i).Perm l
  | x :: l, 0, _ => List.Perm.refl _
  | x :: l, i + 1, h => by
    have h' : i < l.length := by simpa using h
    show (l[i] :: x :: l.eraseIdx i).Perm (x :: l)
    exact (List.Perm.swap x l[i] (l.eraseIdx i)).trans ((erase_perm l i h').cons x)
theorem seqIx {i : Int} {n : Nat} (h0 : 0 ≤ i) (h1 : i < n) : seqIndex? i n = some i.toNat := by
  have h : ixN n i = some i.toNat := by
    unfold ixN
    rw [if_pos h0]
    first
      | (rw [if_pos (by omega)])
      | (split <;> first | rfl | omega)
  exact (ixN_seq h).1
theorem Deal.nes {H : Hp} {p q a : Addr} (d : Deal H p q) (n : H a = none) : a ≠ p ∧ a ≠ q := by
  obtain ⟨ns, b, d⟩ := d
  exact ⟨(fun z => by have h := d.hp; rw [← z, n] at h; cases h), (fun z => by have h := d.hq; rw [← z, n] at h; cases h)⟩
/-! ### sorted pairs -/
def pairO : Option HO → Int × Int
  | some (.tup [.int a, .int b]) => (a, b)
  | _ => (0, 0)
def keyOf (H : Hp) : V → Int × Int
  | .ref t => pairO (H t)
  | _ => (0, 0)
theorem keyOf_at {H : Hp} {t : Addr} {e : Int × Int} (h : PairAt H t e) : keyOf H (.ref t) = e := by
  show pairO (H t) = e
  have h : H t = _ := h
  rw [h]; rfl
def addrOf : V → Addr
  | .ref t => t
  | _ => 0
theorem rd_sortedP {K : PySem.W.Frag} {H : Hp} {Q : VK} {a : Addr} {ps : List Addr} {L : List (Int × Int)} (ha : H a = some (.lst (ps.map V.ref))) (hp : Paired (PairAt H) ps L) (nd : L.Nodup)
    (h : ∀ (qs : List Addr) (L' : List (Int × Int)), L'.Perm L → L'.Pairwise lexlt → Paired (PairAt H) qs L' → NewO H (.lst (qs.map V.ref)) Q) : rSortedPO K [.ref a] H Q := by
  have mem : ∀ x ∈ ps.map V.ref, ∃ t, x = V.ref t ∧ PairAt H t (keyOf H x) := fun x hx => by
    obtain ⟨t, ht, rfl⟩ := List.mem_map.mp hx
    obtain ⟨i, hi⟩ := List.getElem?_of_mem ht
    obtain ⟨e, _, he⟩ := paired_get hp hi
    exact ⟨t, rfl, by rw [keyOf_at he]; exact he⟩
  have keys : (ps.map V.ref).map (keyOf H) = L := by
    clear ha h nd mem
    induction hp with
    | nil => rfl
    | cons x _ ih => rw [List.map_cons, List.map_cons, ih, keyOf_at x]
  refine ⟨a, _, keyOf H, rfl, SqL.of ha, fun x hx => mem x hx, fun ys p srt stb hpn => ?_⟩
  have my : ∀ y ∈ ys, ∃ t, y = V.ref t ∧ PairAt H t (keyOf H y) := fun y hy => mem y (stb.perm.mem_iff.mp hy)
  have ey : (ys.map addrOf).map V.ref = ys := by
    clear stb srt
    induction ys with
    | nil => rfl
    | cons y ys ih =>
      obtain ⟨t, rfl, _⟩ := my y List.mem_cons_self
      rw [List.map_cons, List.map_cons, ih fun z hz => my z (List.mem_cons_of_mem _ hz)]
      rfl
  have py : Paired (PairAt H) (ys.map addrOf) (ys.map (keyOf H)) := by
    clear stb srt ey
    induction ys with
    | nil => exact .nil
    | cons y ys ih =>
      obtain ⟨t, rfl, ht⟩ := my y List.mem_cons_self
      exact .cons ht (ih fun z hz => my z (List.mem_cons_of_mem _ hz))
  have pm : (ys.map (keyOf H)).Perm L := by rw [← keys]; exact stb.perm.map _
  have lx : (ys.map (keyOf H)).Pairwise lexlt := by
    have ndy : (ys.map (keyOf H)).Pairwise (· ≠ ·) := pm.nodup_iff.mpr nd
    have s1 : (ys.map (keyOf H)).Pairwise fun e f => SrtO.lexB f e = false := List.pairwise_map.mpr srt
    exact (s1.and ndy).imp fun {e f} ⟨h1, h2⟩ => by
      have h3 := SrtO.lexB_no.mp h1
      obtain ⟨e1, e2⟩ := e
      obtain ⟨f1, f2⟩ := f
      have h4 : ¬ (e1 = f1 ∧ e2 = f2) := fun ⟨a, b⟩ => h2 (by rw [a, b])
      unfold lexlt
      simp only at h3 ⊢
      omega
  have := new_of (h (ys.map addrOf) (ys.map (keyOf H)) pm lx py) p hpn
  rw [ey] at this
  exact this
/-! ### what _law_links tells, by its form -/
def stepsOf (f n : Int) : List Int := if f = 0 then [1] else if f = 1 then [1] else if f = 2 then [1, 2] else if f = 3 then [1, n / 2] else []
def pairOf (a b : Int) : Int × Int := (if b < a then b else a, if b > a then b else a)
def stepC (n one : Int) (L : List (Int × Int)) (step : Int) : List (Int × Int) :=
  if one = (one + step) % n then L else if pairOf one ((one + step) % n) ∈ L then L else L ++ [pairOf one ((one + step) % n)]
def circ (n : Int) (steps : List Int) (i : Nat) : List (Int × Int) := (List.range i).foldl (fun L one => steps.foldl (stepC n (one : Nat)) L) []
def goodB (n d : Nat) (L : List (Int × Int)) : Bool :=
  L.all (fun e => decide (0 ≤ e.1) && (decide (e.1 < e.2) && decide (e.2 < (n : Int)))) && (decide L.Nodup && (List.range n).all fun s => decide ((L.filter (inc (s : Int))).length ≤ d))
theorem goodB_ok {n d : Nat} {L : List (Int × Int)} (h : goodB n d L = true) : Good n d L := by
  unfold goodB at h
  rw [Bool.and_eq_true, Bool.and_eq_true] at h
  obtain ⟨h1, h2, h3⟩ := h
  have rng : ∀ e ∈ L, 0 ≤ e.1 ∧ e.1 < e.2 ∧ e.2 < n := fun e he => by
    have := List.all_eq_true.mp h1 e he
    simpa using this
  refine ⟨rng, of_decide_eq_true h2, fun s => ?_⟩
  by_cases hs : 0 ≤ s ∧ s < n
  · have := List.all_eq_true.mp h3 s.toNat (List.mem_range.mpr (by omega))
    have e : ((s.toNat : Nat) : Int) = s := by omega
    rw [e] at this
    exact of_decide_eq_true this
  · have : L.filter (inc s) = [] := List.filter_eq_nil_iff.mpr fun e he => by
      obtain ⟨a, b, c⟩ := rng e he
      unfold inc
      simp
      omega
    rw [this]; exact Nat.zero_le _
theorem circ_good : ∀ n : Nat, 1 ≤ n → n < 10 → ∀ f : Nat, f < 4 → goodB n 4 (circ n (stepsOf f n) n) = true := by
  have h : ((List.range 10).all fun n => (List.range 4).all fun f => n == 0 || goodB n 4 (circ n (stepsOf f n) n)) = true := by decide +kernel
  intro n h1 h2 f hf
  have a := List.all_eq_true.mp h n (List.mem_range.mpr h2)
  have b := List.all_eq_true.mp a f (List.mem_range.mpr hf)
  have z : (n == 0) = false := by simp; omega
  rw [z, Bool.false_or] at b
  exact b
end K65

namespace K65
open PySem PySem.Spec PyProof.Rows L2 KX
theorem rd_for {wi : TI} {g : TG} {tb : TS} {D : Ends} {σ : L2.St} {H : Hp} (h : wi σ H fun J H1 => ∃ W : Nat → Nat → L2.St → Hp → Prop, (∃ m, W 0 m σ H1) ∧ ∀ i m σ H, W i m σ H →
    (J.stop i H ∧ D.nx σ H) ∨ (J.go i H ∧ ∃ N : L2.St → Hp → Prop, (∀ σ' H', N σ' H' → ∃ m', m' < m ∧ W (i + 1) m' σ' H') ∧ ∀ x H', J.yld i H x H' → g x σ H' fun σ2 H2 => tb { D with nx := N, ct := N, bk := D.nx } σ2 H2)) : tFor wi g tb D σ H := h
theorem rd_lc {wi : TI} {g : TG} {tt : TT} {te : TE} {vs : List Nat} {σ : L2.St} {H : Hp} {Q : VK} (h : wi σ H fun J H1 => ∀ D, H1 D = none → ∃ W : Nat → Nat → Hp → Prop, (∃ m, W 0 m (upd H1 D (.lst []))) ∧ ∀ i m H, W i m H →
    (J.stop i H ∧ Q (.ref D) H) ∨ (J.go i H ∧ ∃ Nx : Hp → Prop, (∀ H', Nx H' → ∃ m', m' < m ∧ W (i + 1) m' H') ∧ ∀ x H', J.yld i H x H' → g x (wipe σ vs) H' fun σ2 H2 => wipe σ2 vs = wipe σ vs ∧ tt σ2 H2 fun b H3 =>
      if b = true then te σ2 H3 fun y H4 => ∃ acc, H4 D = some (.lst acc) ∧ acc.length < sizeLine ∧ Nx (upd H4 D (.lst (acc ++ [y]))) else Nx H3)) : tLc wi g tt te vs σ H Q := h
local macro_rules | `(tactic| walk_at "rd1") => `(tactic| first
  | with_reducible refine rd_seq ?_
  | with_reducible refine rd_for ?_
  | with_reducible refine rd_lc ?_
  | with_reducible refine rd_asg ?_
  | ((with_reducible refine' rd_var ?rdv ?_); (case rdv => exact rfl))
  | with_reducible refine rd_c ?_
  | with_reducible refine rd_op ?_
  | with_reducible refine rd_un ?_
  | with_reducible refine rd_cons ?_
  | with_reducible refine rd_nil ?_
  | with_reducible refine rd_call ?_
  | with_reducible refine rd_cb ?_
  | with_reducible refine rd_tB ?_
  | with_reducible refine rd_test ?_
  | with_reducible refine rd_bl ?_
  | with_reducible refine rd_rI0 ?_
  | with_reducible refine rd_eqI ?_
  | with_reducible refine rd_neI ?_
  | with_reducible refine rd_rU ?_
  | with_reducible refine rd_name ?_
  | with_reducible refine rd_ifs ?_
  | with_reducible refine rd_and ?_
  | with_reducible refine rd_or ?_
  | with_reducible refine rd_not ?_
  | with_reducible refine rd_yes ?_
  | with_reducible refine rd_andV ?_
  | with_reducible refine rd_orV ?_
  | with_reducible refine rd_notV ?_
  | with_reducible refine rd_if ?_
  | with_reducible refine rd_isN ?_
  | with_reducible refine rd_iT ?_
  | with_reducible refine rd_iF ?_
  | with_reducible refine rd_ret ?_
  | with_reducible refine rd_retN ?_
  | with_reducible refine rd_drop ?_
  | with_reducible refine rd_next ?_
  | with_reducible refine rd_cont ?_
  | with_reducible refine rd_brk ?_
  | with_reducible refine rd_nx ?_
  | with_reducible refine rd_rt ?_
  | with_reducible refine rd_ct ?_
  | with_reducible refine rd_bk ?_
  | with_reducible refine rd_par ?_
  | with_reducible refine rd_par3 ?_
  | with_reducible refine rd_par2 ?_
  | with_reducible refine rd_par33 ?_
  | with_reducible refine rd_gcons ?_
  | with_reducible refine rd_gnil ?_
  | with_reducible refine rd_sub ?_
  | with_reducible refine rd_tup ?_
  | with_reducible refine rd_lst ?_
  | ((with_reducible refine rd_tupT ?hl ?_); (case hl => exact Nat.le_of_ble_eq_true rfl))
  | ((with_reducible refine rd_lstT ?hl ?_); (case hl => exact Nat.le_of_ble_eq_true rfl))
  | with_reducible refine rd_bm ?_
  | with_reducible refine rd_bm0 ?_
  | with_reducible refine rd_sl ?_
  | with_reducible refine rd_noP ?_
  | with_reducible refine rd_part ?_
  | with_reducible refine rd_int ?_
  | with_reducible refine rd_int1 ?_
  | with_reducible refine rd_fld ?_
  | with_reducible refine rd_then ?_
  | with_reducible refine rd_raise ?_
  | with_reducible refine rd_one ?_
  | with_reducible refine rd_sfld ?_
  | with_reducible refine rd_ilist ?_
  | with_reducible refine rd_itup ?_
  | with_reducible refine rd_rng1 ?_
  | with_reducible refine rd_enum ?_
  | with_reducible refine rd_enumT ?_)
local macro_rules | `(tactic| walk_at "rd") => `(tactic| repeat (walk_at "rd1"))
/-- the list of links under way -/
def LkInv (p q l : Addr) (H H' : Hp) (L : List (Int × Int)) : Prop := Deal H' p q ∧ Fix p q H H' ∧ ∃ ps : List Addr, H' l = some (.lst (ps.map V.ref)) ∧ Paired (PairAt H') ps L
theorem pairs_same {H H' : Hp} {ps : List Addr} {L : List (Int × Int)} (h : Paired (PairAt H) ps L) (s : Same H H') : Paired (PairAt H') ps L := paired_mono h fun _ _ z => s _ _ z
theorem pairs_upd {H : Hp} {l : Addr} {xs ys : List V} {ps : List Addr} {L : List (Int × Int)} (h : Paired (PairAt H) ps L) (hl : H l = some (.lst xs)) : Paired (PairAt (upd H l (.lst ys))) ps L :=
  paired_mono h fun a b z => by
    have z : H a = some _ := z
    show upd H l _ a = some _
    rw [upd_ne (fun e => by rw [e, hl] at z; cases z)]
    exact z
theorem pairs_snoc {H : Hp} {t : Addr} {e : Int × Int} : ∀ {ps : List Addr} {L : List (Int × Int)}, Paired (PairAt H) ps L → PairAt H t e → Paired (PairAt H) (ps ++ [t]) (L ++ [e]) := fun h a => by
  induction h with
  | nil => exact .cons a .nil
  | cons x _ ih => exact .cons x ih
theorem LkInv.same {p q l : Addr} {H H1 H2 : Hp} {L : List (Int × Int)} (h : LkInv p q l H H1 L) (s : Same H1 H2) : LkInv p q l H H2 L := by
  obtain ⟨d, f, ps, h1, h2⟩ := h
  exact ⟨d.same s, f.trans (Fix.same s), ps, s _ _ h1, pairs_same h2 s⟩
theorem LkInv.fix {p q l : Addr} {H H1 H2 : Hp} {L : List (Int × Int)} (h : LkInv p q l H H1 L) (lp : l ≠ p) (lq : l ≠ q) (d : Deal H2 p q) (s : Fix p q H1 H2) : LkInv p q l H H2 L := by
  obtain ⟨d1, f, ps, h1, h2⟩ := h
  exact ⟨d, f.trans s, ps, s _ _ lp lq h1, paired_mono h2 fun a b z => Fix.keep s d1 z (fun _ e => by cases e)⟩
theorem LkInv.app {p q l t : Addr} {H H1 : Hp} {L : List (Int × Int)} {e : Int × Int} (h : LkInv p q l H H1 L) (lp : l ≠ p) (lq : l ≠ q) (l0 : H l = none) (ht : PairAt H1 t e) :
    ∃ xs, H1 l = some (.lst xs) ∧ xs.length = L.length ∧ LkInv p q l H (upd H1 l (.lst (xs ++ [.ref t]))) (L ++ [e]) := by
  obtain ⟨d, f, ps, h1, h2⟩ := h
  refine ⟨_, h1, by rw [List.length_map, paired_len h2], d.off lp lq, f.upd l0, ps ++ [t], by rw [upd_same]; simp, ?_⟩
  exact pairs_upd (pairs_snoc h2 ht) h1
theorem rd_notInP {K : PySem.W.Frag} {H : Hp} {t l : Addr} {e : Int × Int} {ps : List Addr} {L : List (Int × Int)} {Q : VK} (ht : PairAt H t e) (hl : H l = some (.lst (ps.map V.ref))) (hp : Paired (PairAt H) ps L)
    (h : Q (.bl (!decide (e ∈ L))) H) : rNotInD K (.ref t) (.ref l) H Q :=
  ⟨dP e, L.map dP, dp_pair ht, .lst (SqL.of hl) (dp_pairs hp), dP_sh1 e, dP_shL L, by rw [dP_any]; exact h⟩
theorem stepC_len (n one : Int) (L : List (Int × Int)) (s : Int) : (stepC n one L s).length ≤ L.length + 1 := by
  unfold stepC
  split
  · omega
  · split
    · omega
    · simp
theorem fold_snoc {α β : Type} (f : α → β → α) (a : α) (l : List β) (i : Nat) (x : β) (h : l[i]? = some x) : (l.take (i + 1)).foldl f a = f ((l.take i).foldl f a) x := by
  rw [List.take_succ, h]
  simp [List.foldl_append]
theorem circ_succ (n : Int) (steps : List Int) (i : Nat) : circ n steps (i + 1) = steps.foldl (stepC n (i : Nat)) (circ n steps i) := by
  unfold circ
  rw [List.range_succ, List.foldl_append]
  rfl
theorem circ_nil (n : Int) : ∀ i, circ n [] i = []
  | 0 => rfl
  | i + 1 => by rw [circ_succ, circ_nil n i]; rfl
theorem fold_len (n one : Int) : ∀ (steps : List Int) (L : List (Int × Int)), (steps.foldl (stepC n one) L).length ≤ L.length + steps.length
  | [], L => Nat.le_refl _
  | s :: ss, L => by
    have h1 := fold_len n one ss (stepC n one L s)
    have h2 := stepC_len n one L s
    simp only [List.foldl_cons, List.length_cons]
    omega
theorem circ_len (n : Int) (steps : List Int) (hs : steps.length ≤ 2) : ∀ i, (circ n steps i).length ≤ 2 * i
  | 0 => Nat.le_refl _
  | i + 1 => by
    rw [circ_succ]
    have h1 := circ_len n steps hs i
    have h2 := fold_len n (i : Nat) steps (circ n steps i)
    omega
theorem steps_len (f n : Int) : (stepsOf f n).length ≤ 2 := by
  unfold stepsOf
  split
  · decide
  · split
    · decide
    · split
      · decide
      · split
        · simp
        · decide
theorem inc_in (s : Int) (e : Int × Int) : decide (s ∈ [e.1, e.2]) = inc s e := by
  unfold inc
  by_cases h1 : e.1 = s
  · simp [h1]
  · by_cases h2 : e.2 = s
    · simp [h2]
    · have h1' : ¬ s = e.1 := fun z => h1 z.symm
      have h2' : ¬ s = e.2 := fun z => h2 z.symm
      simp [h1, h2, h1', h2']
/-- links drawn one by one: the greater site first, then the lesser one -/
structure Bf (o i : Nat) (L : List (Int × Int)) : Prop where
  rng : ∀ e ∈ L, 0 ≤ e.1 ∧ e.1 < e.2 ∧ (e.2 < o ∨ e.2 = o ∧ e.1 < i)
  nd : L.Nodup
  deg : ∀ s : Int, (L.filter (inc s)).length ≤ 4
  len : L.length ≤ 10 * o + i
theorem Bf.skip {o i : Nat} {L : List (Int × Int)} (h : Bf o i L) : Bf o (i + 1) L :=
  ⟨fun e he => by have := h.rng e he; omega, h.nd, h.deg, by have := h.len; omega⟩
theorem Bf.next {o : Nat} {L : List (Int × Int)} (h : Bf o o L) (ho : o < 10) : Bf (o + 1) 0 L :=
  ⟨fun e he => by have := h.rng e he; omega, h.nd, h.deg, by have := h.len; omega⟩
theorem Bf.app {o i : Nat} {L : List (Int × Int)} (h : Bf o i L) (hi : i < o) (d1 : (L.filter (inc (i : Nat))).length < 4) (d2 : (L.filter (inc (o : Nat))).length < 4) : Bf o (i + 1) (L ++ [(((i : Nat) : Int), ((o : Nat) : Int))]) := by
  refine ⟨fun e he => ?_, ?_, fun s => ?_, by have := h.len; simp; omega⟩
  · rcases List.mem_append.mp he with z | z
    · have := h.rng e z; omega
    · rw [List.mem_singleton.mp z]
      show (0 : Int) ≤ (i : Nat) ∧ ((i : Nat) : Int) < (o : Nat) ∧ _
      omega
  · refine List.nodup_append.mpr ⟨h.nd, by simp, fun a ha b hb => ?_⟩
    rw [List.mem_singleton.mp hb]
    intro z
    have := h.rng a ha
    rw [z] at this
    simp at this
  · rw [List.filter_append, List.length_append]
    have h1 := h.deg s
    by_cases c1 : ((i : Nat) : Int) = s
    · rw [← c1]
      have : ([(((i : Nat) : Int), ((o : Nat) : Int))].filter (inc ((i : Nat) : Int))).length ≤ 1 := List.length_filter_le _ _
      omega
    · by_cases c2 : ((o : Nat) : Int) = s
      · rw [← c2]
        have : ([(((i : Nat) : Int), ((o : Nat) : Int))].filter (inc ((o : Nat) : Int))).length ≤ 1 := List.length_filter_le _ _
        omega
      · have : [(((i : Nat) : Int), ((o : Nat) : Int))].filter (inc s) = [] := by
          simp [inc, c1, c2]
        rw [this]; simpa using h1
theorem Bf.good {n : Nat} {L : List (Int × Int)} (h : Bf n 0 L) : Good n 4 L :=
  ⟨fun e he => by have := h.rng e he; omega, h.nd, h.deg⟩
theorem Good.perm {n d : Nat} {L M : List (Int × Int)} (h : Good n d L) (p : M.Perm L) : Good n d M :=
  ⟨fun e he => h.rng e (p.mem_iff.mp he), p.nodup_iff.mpr h.nd, fun s => by rw [perm_filter_len p (inc s)]; exact h.deg s⟩
def spLk : Sp := fun vs H Q _ => ∃ (p q : Addr) (n : Nat), vs = [.ref p, .int (n : Nat)] ∧ Deal H p q ∧ 1 ≤ n ∧ n < 10 ∧
  ∀ (H' : Hp) (l : Addr) (ps : List Addr) (L : List (Int × Int)), Deal H' p q → Fix p q H H' → H l = none → l ≠ p → l ≠ q → H' l = some (.lst (ps.map V.ref)) → Paired (PairAt H') ps L → Good n 4 L → L.Pairwise lexlt → Q (.ref l) H'
section
variable {P : Program} {w : World} {K : PySem.W.Frag} {mg : Str → Option Value} {base : Heap} (T : TX K mg)
theorem G__law_links : FnOk P w K mg base CX0 2 T.f__law_links T.d__law_links ["deal", "many"] spLk := by
  refine T.F__law_links.ok sc__law_links (fun vs H Q E h => ?_) fun cdv A outer s H vs Q E hr h => ⟨_, (pss_cons (ps_asg (pe_tup (pa_cons (pe_call (G__law_any T) (hr.mono (by decide)) (by rfl) T.m__law_any T.F__law_any.kp T.b__law_any .nil pass0 (by exact (pa_cons (pv 0) (pa_cons pe_int pa_nil)))) (pa_cons (pe_lst pa_nil) (pa_cons (pe_op op_add pe_int (pe_call (G__law_any T) (hr.mono (by decide)) (by rfl) T.m__law_any T.F__law_any.kp T.b__law_any .nil pass0 (by exact (pa_cons (pv 0) (pa_cons pe_int pa_nil))))) pa_nil)))) (pg_tupK (K := K) (n := 3) (by rfl) (pgs_cons (pg_name (i := 2) sc__law_links.nd rfl (.inl rfl)) (pgs_cons (pg_name (i := 3) sc__law_links.nd rfl (.inr rfl)) (pgs_cons (pg_name (i := 4) sc__law_links.nd rfl (.inl rfl)) pgs_nil))))) (pss_cons (ps_set (i := 5) sc__law_links.nd rfl (.inl rfl) (pe_ix (ix_listK (K := K)) (pe_lst (pa_cons (pe_lst (pa_cons pe_int pa_nil)) (pa_cons (pe_lst (pa_cons pe_int pa_nil)) (pa_cons (pe_lst (pa_cons pe_int (pa_cons pe_int pa_nil))) (pa_cons (pe_lst (pa_cons pe_int (pa_cons (pe_op op_fdiv (pv 1) pe_int) pa_nil))) (pa_cons (pe_lst pa_nil) (pa_cons (pe_lst pa_nil) pa_nil))))))) (pv 2) (fun _ _ => rfl))) (pss_cons (ps_for PassesOwn.never rfl (pi_range1 (by rfl) T.n_range (by exact (pa_cons (pv 1) pa_nil))) (pg_name (i := 6) sc__law_links.nd rfl (.inl rfl)) (pss_one (ps_for PassesOwn.never rfl (pi_listK (K := K) (pv 5)) (pg_name (i := 7) sc__law_links.nd rfl (.inl rfl)) (pss_cons (ps_set (i := 8) sc__law_links.nd rfl (.inl rfl) (pe_op op_mod (pe_callTy call_int1 (by rfl) T.n_int (by decide +kernel) (by exact (pa_cons (pe_op op_add (pv 6) (pv 7)) pa_nil))) (pv 1))) (pss_one (ps_if (PW.pt (pw_and (pt_cmpR op_ne (pv 6) (pv 8) (nomark _)) (pw_and1 (pt_cmpR (op_notInDK (K := K) (KX.Room.u65 hr)) (pe_tup (pa_cons (pe_callB (call_min2 rfl) (by rfl) T.n_min (by decide +kernel) (by exact (pa_cons (pv 6) (pa_cons (pv 8) pa_nil)))) (pa_cons (pe_callB (call_max2 rfl) (by rfl) T.n_max (by decide +kernel) (by exact (pa_cons (pv 6) (pa_cons (pv 8) pa_nil)))) pa_nil))) (pv 3) (by rfl))))) (pss_one (ps_expr (pe_bmK (K := K) PySem.F.slot_list_append PySem.F.type_list_append mt_append (pv 3) (by exact (pa_cons (pe_tup (pa_cons (pe_callB (call_min2 rfl) (by rfl) T.n_min (by decide +kernel) (by exact (pa_cons (pv 6) (pa_cons (pv 8) pa_nil)))) (pa_cons (pe_callB (call_max2 rfl) (by rfl) T.n_max (by decide +kernel) (by exact (pa_cons (pv 6) (pa_cons (pv 8) pa_nil)))) pa_nil))) pa_nil))))) pss_nil)))))) (pss_cons (ps_if (pt_cmpR op_gt (pv 2) pe_int (nomark _)) (pss_one (ps_for PassesOwn.never rfl (pi_range1 (by rfl) T.n_range (by exact (pa_cons (pv 1) pa_nil))) (pg_name (i := 8) sc__law_links.nd rfl (.inl rfl)) (pss_one (ps_for PassesOwn.never rfl (pi_range1 (by rfl) T.n_range (by exact (pa_cons (pv 8) pa_nil))) (pg_name (i := 6) sc__law_links.nd rfl (.inl rfl)) (pss_cons (ps_setLc (i := 9) (own := [("site", 10)]) (by rfl) sc__law_links.nd rfl rfl (sw_true rfl rfl rfl (by decide +kernel)) (pi_tupK (K := K) (pe_tup (pa_cons (pv 6) (pa_cons (pv 8) pa_nil)))) (blkOk_by (own := [("site", 10)]) (N := N__law_links) (sc := defScope s__law_links) (by decide +kernel)) (fun _ _ _ _ _ => (pg_name (i := 10) sc__law_links.nd rfl (.inr rfl))) (fun _ _ _ _ _ => pts_nil) (fun _ _ _ _ _ => (pe_callB (cr_lenK (K := K)) (by rfl) T.n_len (by decide +kernel) (by exact (pa_cons (by exact (pe_lc (own := [("link", 11)]) (by rfl) sc__law_links.nd (pi_listK (K := K) (pv 3)) (blkOk_by (own := [("link", 11)]) (N := N__law_links) (sc := ({ kind := PySem.ScopeKind.function, names := [(PySem.Str.ofString ".0", PySem.NameKind.local), (PySem.Str.ofString "site", PySem.NameKind.cell), (PySem.Str.ofString "len", PySem.NameKind.globalImplicit), (PySem.Str.ofString "links", PySem.NameKind.cell)], isGenerator := false, isCoroutine := false, more := [] } : PySem.Scope)) (by decide +kernel)) (fun _ _ _ _ _ => (pg_name (i := 11) sc__law_links.nd rfl (.inl rfl))) (fun _ _ _ _ _ => pts_one (pt_cmpR (op_inK (K := K)) (pv 10) (pv 11) (by rfl))) (fun _ _ _ _ _ => (pv 11)) )) pa_nil)))) ) (pss_one (ps_if (PW.pt (pw_and (pt_cmpR op_lt (pe_callB (cr_maxK (K := K) rfl) (by rfl) T.n_max (by decide +kernel) (by exact (pa_cons (pv 9) pa_nil))) (pv 4) (nomark _)) (pw_and1 (pt_cmpR op_gt (pe_call (G__law_any T) (hr.mono (by decide)) (by rfl) T.m__law_any T.F__law_any.kp T.b__law_any .nil pass0 (by exact (pa_cons (pv 0) (pa_cons pe_int pa_nil)))) pe_int (nomark _))))) (pss_one (ps_expr (pe_bmK (K := K) PySem.F.slot_list_append PySem.F.type_list_append mt_append (pv 3) (by exact (pa_cons (pe_tup (pa_cons (pv 6) (pa_cons (pv 8) pa_nil))) pa_nil))))) pss_nil))))))) pss_nil) (pss_one (ps_ret (pe_callB (cr_sortedPOK (K := K)) (by rfl) T.n_sorted (by decide +kernel) (by exact (pa_cons (pv 3) pa_nil))))))))), ?_⟩
  · obtain ⟨p, q, n, rfl, _⟩ := h
    rfl
  · obtain ⟨p, q, n, rfl, d, n1, n10, hQ⟩ := h
    walk_at "rd"
    refine ⟨p, q, 6, rfl, d, by decide, by decide, fun H1 f d1 f1 f0 f6 => ?_⟩
    walk_at "rd"
    intro l H2 l0 S2 hl
    have d2 := d1.same S2
    obtain ⟨lp, lq⟩ := d1.nes l0
    have l00 := f1.free d1 l0
    walk_at "rd"
    refine ⟨p, q, 4, rfl, d2, by decide, by decide, fun H3 m d3 f3 m0 m4 => ?_⟩
    have hl3 := f3 _ _ lp lq hl
    have F3 : Fix p q H H3 := f1.trans ((Fix.same S2).trans f3)
    walk_at "rd"
    intro t H4 t0 S4 ht
    refine rd_gtup (Tup.of ht) rfl ?_
    walk_at "rd"
    intro a0 H5 n5 S5 e0
    walk_at "rd"
    intro a1 H6 n6 S6 e1
    walk_at "rd"
    intro a2 H7 n7 S7 e2
    walk_at "rd"
    refine rd_rI ⟨by decide, by decide⟩ ?_
    walk_at "rd"
    intro a3 H8 n8 S8 e3
    walk_at "rd"
    intro a4 H9 n9 S9 e4
    walk_at "rd"
    intro a5 H10 n10' S10 e5
    walk_at "rd"
    intro a6 H11 n11 S11 e6
    have S411 := ((((((S4.trans S5).trans S6).trans S7).trans S8).trans S9).trans S10).trans S11
    have hl11 := S411 _ _ hl3
    obtain ⟨as, hst, has, asl⟩ : ∃ as, atI [V.ref a0, V.ref a1, V.ref a2, V.ref a3, V.ref a4, V.ref a5] f = some (.ref as) ∧ H11 as = some (.lst ((stepsOf f n).map V.int)) ∧ as ≠ l := by
      have hf : f = 0 ∨ f = 1 ∨ f = 2 ∨ f = 3 ∨ f = 4 ∨ f = 5 := by omega
      have h4 := S4 _ _ hl3
      have h5 := S5 _ _ h4
      have h6 := S6 _ _ h5
      have h7 := S7 _ _ h6
      have h8 := S8 _ _ h7
      have h9 := S9 _ _ h8
      rcases hf with rfl | rfl | rfl | rfl | rfl | rfl
      · exact ⟨a0, rfl, (((((S6.trans S7).trans S8).trans S9).trans S10).trans S11) _ _ e0, fun z => by rw [z, h4] at n5; cases n5⟩
      · exact ⟨a1, rfl, ((((S7.trans S8).trans S9).trans S10).trans S11) _ _ e1, fun z => by rw [z, h5] at n6; cases n6⟩
      · exact ⟨a2, rfl, (((S8.trans S9).trans S10).trans S11) _ _ e2, fun z => by rw [z, h6] at n7; cases n7⟩
      · exact ⟨a3, rfl, ((S9.trans S10).trans S11) _ _ e3, fun z => by rw [z, h7] at n8; cases n8⟩
      · exact ⟨a4, rfl, (S10.trans S11) _ _ e4, fun z => by rw [z, h8] at n9; cases n9⟩
      · exact ⟨a5, rfl, S11 _ _ e5, fun z => by rw [z, h9] at n10'; cases n10'⟩
    walk_at "rd"
    refine rd_ixL e6 hst ?_
    walk_at "rd"
    have I0 : LkInv p q l H H11 [] := ⟨d3.same S411, F3.trans (Fix.same S411), [], hl11, .nil⟩
    generalize hsp : stepsOf f n = sp at has
    have spl : sp.length ≤ 2 := by rw [← hsp]; exact steps_len f n
    refine ⟨by omega, by omega, ?_⟩
    refine for_range (lo := 0) (n := n) (fun i σ H' => (∃ o6 o7 o8 o9 o10 o11, σ = [some (.ref p), some (.int (n : Nat)), some (.int f), some (.ref l), some (.int (1 + m)), some (.ref as), o6, o7, o8, o9, o10, o11]) ∧
      LkInv p q l H H' (circ n sp i) ∧ H' as = some (.lst (sp.map V.int))) ⟨⟨_, _, _, _, _, _, rfl⟩, I0, has⟩ (fun i σ H' hi pv => ?_) (fun σ H' pv => ?_)
    · obtain ⟨⟨o6, o7, o8, o9, o10, o11, rfl⟩, I, ha⟩ := pv
      walk_at "rd"
      refine ⟨as, rfl, ⟨_, SqL.of ha⟩, ?_⟩
      refine for_list (xs := sp.map V.int) (fun j σ H' => (∃ o7 o8 o9 o10 o11, σ = [some (.ref p), some (.int (n : Nat)), some (.int f), some (.ref l), some (.int (1 + m)), some (.ref as), some (.int (0 + (i : Nat))), o7, o8, o9, o10, o11]) ∧
        LkInv p q l H H' ((sp.take j).foldl (stepC n (i : Nat)) (circ n sp i)) ∧ H' as = some (.lst (sp.map V.int))) ⟨⟨_, _, _, _, _, rfl⟩, I, ha⟩ (fun j σ H' _ pv => SqL.of pv.2.2) (fun j x σ H' hx pv => ?_) (fun σ H' pv => ?_)
      · obtain ⟨⟨o7, o8, o9, o10, o11, rfl⟩, I, ha⟩ := pv
        rw [List.getElem?_map] at hx
        obtain ⟨st, hs, rfl⟩ := Option.map_eq_some_iff.mp hx
        rw [fold_snoc _ _ _ _ _ hs]
        have lL : ((sp.take j).foldl (stepC n (i : Nat)) (circ n sp i)).length ≤ 100 := by
          have h1 := fold_len n (i : Nat) (sp.take j) (circ n sp i)
          have h2 := circ_len n sp spl i
          have h3 : (sp.take j).length ≤ sp.length := by rw [List.length_take]; omega
          omega
        generalize (sp.take j).foldl (stepC n (i : Nat)) (circ n sp i) = L at I lL
        walk_at "rd"
        refine .inl ⟨_, rfl, ?_⟩
        walk_at "rd"
        refine rd_rI (by omega) ?_
        have z0 : (0 : Int) + (i : Nat) = (i : Nat) := by omega
        have zg : ((0 : Int) + (i : Nat) + st) % (n : Nat) = ((i : Nat) + st) % (n : Nat) := by rw [z0]
        rw [zg, z0]
        have zs : stepC (n : Nat) (i : Nat) L st = if ((i : Nat) : Int) = ((i : Nat) + st) % (n : Nat) then L else if pairOf (i : Nat) (((i : Nat) + st) % (n : Nat)) ∈ L then L else L ++ [pairOf (i : Nat) (((i : Nat) + st) % (n : Nat))] := rfl
        rw [zs]
        generalize (((i : Nat) : Int) + st) % (n : Nat) = ot
        walk_at "rd"
        by_cases h1 : ((i : Nat) : Int) = ot
        · rw [if_pos h1]
          refine iteF' (by simp [h1]) ?_
          walk_at "rd"
          exact ⟨⟨_, _, _, _, _, rfl⟩, I, ha⟩
        · rw [if_neg h1]
          refine iteT' (by simp [h1]) ?_
          walk_at "rd"
          refine ⟨_, _, rfl, ?_⟩
          walk_at "rd"
          refine ⟨_, _, rfl, ?_⟩
          walk_at "rd"
          intro u H12 u0 S12 hu
          have hu : PairAt H12 u (pairOf (i : Nat) ot) := hu
          have I12 := I.same S12
          have ha12 := S12 _ _ ha
          obtain ⟨_, _, ps, hps, hpp⟩ := I12
          walk_at "rd"
          refine rd_notInP hu hps hpp ?_
          walk_at "rd"
          by_cases h2 : pairOf (i : Nat) ot ∈ L
          · rw [if_pos h2]
            refine iteF' (by simp [h2]) ?_
            walk_at "rd"
            exact ⟨⟨_, _, _, _, _, rfl⟩, I.same S12, ha12⟩
          · rw [if_neg h2]
            refine iteT' (by simp [h2]) ?_
            walk_at "rd"
            refine rd_ty hps ?_
            walk_at "rd"
            refine ⟨_, _, rfl, ?_⟩
            walk_at "rd"
            refine ⟨_, _, rfl, ?_⟩
            walk_at "rd"
            intro v H13 v0 S13 hv
            have hv : PairAt H13 v (pairOf (i : Nat) ot) := hv
            obtain ⟨xs, hxs, lxs, I13⟩ := ((I.same S12).same S13).app lp lq l00 hv
            walk_at "rd"
            refine rd_app hxs (by omega) ?_
            walk_at "rd"
            refine ⟨⟨_, _, _, _, _, rfl⟩, I13, ?_⟩
            rw [upd_ne asl]
            exact S13 _ _ ha12
      · obtain ⟨⟨o7, o8, o9, o10, o11, rfl⟩, I, ha⟩ := pv
        rw [List.length_map, List.take_length, ← circ_succ] at I
        walk_at "rd"
        exact ⟨⟨_, _, _, _, _, _, rfl⟩, I, ha⟩
    · obtain ⟨⟨o6, o7, o8, o9, o10, o11, rfl⟩, I, ha⟩ := pv
      have fin : ∀ (H' : Hp) (L : List (Int × Int)) (σ : L2.St), σ[3]? = some (some (V.ref l)) → LkInv p q l H H' L → Good n 4 L → tRet (tCB (rSortedPO K) (tCons (tVar 3) tNil)) { nx := fun x H' => Q V.non H', rt := Q } σ H' := fun H' L σ hσ I g => by
        obtain ⟨d', f', ps, hps, hpp⟩ := I
        refine rd_ret (rd_cb (rd_cons (rd_var hσ (rd_nil ?_))))
        refine rd_sortedP hps hpp g.nd fun qs L' pm srt pr => ?_
        intro a H'' a0 S e
        exact hQ H'' a qs L' (d'.same S) (f'.trans (Fix.same S)) (f'.free d' a0) (d'.nes a0).1 (d'.nes a0).2 e (pairs_same pr S) (g.perm pm) srt
      walk_at "rd"
      by_cases h3 : 3 < f
      · refine iteT' (decide_eq_true h3) ?_
        have spn : sp = [] := by
          rw [← hsp]
          have : f = 4 ∨ f = 5 := by omega
          rcases this with rfl | rfl <;> rfl
        rw [spn, circ_nil] at I
        walk_at "rd"
        refine ⟨by omega, by omega, ?_⟩
        refine for_range (lo := 0) (n := n) (fun o σ H' => (∃ o5 o6 o7 o8 o9 o10 o11, σ = [some (.ref p), some (.int (n : Nat)), some (.int f), some (.ref l), some (.int (1 + m)), o5, o6, o7, o8, o9, o10, o11]) ∧
          ∃ L, LkInv p q l H H' L ∧ Bf o 0 L) ⟨⟨_, _, _, _, _, _, _, rfl⟩, [], I, ⟨by simp, List.nodup_nil, by simp, by simp⟩⟩ (fun o σ H' ho pv => ?_) (fun σ H' pv => ?_)
        · obtain ⟨⟨o5, o6, o7, o8, o9, o10, o11, rfl⟩, L, I, B⟩ := pv
          walk_at "rd"
          refine ⟨by omega, by omega, ?_⟩
          have e0 : ((0 : Int) + (o : Nat)).toNat = o := by omega
          rw [e0]
          refine for_range (lo := 0) (n := o) (fun i σ H' => (∃ o5 o6 o7 o9 o10 o11, σ = [some (.ref p), some (.int (n : Nat)), some (.int f), some (.ref l), some (.int (1 + m)), o5, o6, o7, some (.int (0 + (o : Nat))), o9, o10, o11]) ∧
            ∃ L, LkInv p q l H H' L ∧ Bf o i L) ⟨⟨_, _, _, _, _, _, rfl⟩, L, I, B⟩ (fun i σ H' hi pv => ?_) (fun σ H' pv => ?_)
          · obtain ⟨⟨o5, o6, o7, o9, o10, o11, rfl⟩, L, I, B⟩ := pv
            walk_at "rd"
            intro u H12 u0 S12 hu
            have I12 := I.same S12
            refine ⟨u, rfl, ⟨_, SqT.of hu⟩, fun D hD => ?_⟩
            have lL : L.length ≤ 100 := by have := B.len; omega
            have hD' : H' D = none := S12.free hD
            refine lc_tup (xs := [V.int (0 + (i : Nat)), V.int (0 + (o : Nat))]) (fun j H' => Same H12 H' ∧ H' D = some (.lst (([((i : Nat) : Int), ((o : Nat) : Int)].take j).map fun s => V.int ((L.filter (inc s)).length : Nat))))
              ⟨Same.fresh hD, upd_same⟩ (fun j H' _ pv => SqT.of (pv.1 _ _ hu)) (fun j x H13 hx pv => ?_) (fun H13 pv => ?_)
            · obtain ⟨S13, hD13⟩ := pv
              obtain ⟨s, hs, rfl⟩ : ∃ s : Int, [((i : Nat) : Int), ((o : Nat) : Int)][j]? = some s ∧ x = V.int s := by
                match j, hx with
                | 0, hx => simp at hx; exact ⟨_, rfl, by rw [← hx]⟩
                | 1, hx => simp at hx; exact ⟨_, rfl, by rw [← hx]⟩
                | j + 2, hx => simp at hx
              have I13 := I12.same S13
              obtain ⟨_, _, ps, hps, hpp⟩ := I13
              walk_at "rd"
              refine ⟨rfl, ?_⟩
              walk_at "rd"
              refine ⟨l, rfl, ⟨_, SqL.of hps⟩, fun D2 hD2 => ?_⟩
              refine lc_list (xs := ps.map V.ref) (fun k H' => Same H13 H' ∧ ∃ vs, H' D2 = some (.lst vs) ∧ vs.length = ((L.take k).filter (inc s)).length)
                ⟨Same.fresh hD2, [], upd_same, rfl⟩ (fun k H' _ pv => SqL.of (pv.1 _ _ hps)) (fun k x H14 hx pv => ?_) (fun H14 pv => ?_)
              · obtain ⟨S14, vs, hvs, lv⟩ := pv
                rw [List.getElem?_map] at hx
                obtain ⟨t, ht, rfl⟩ := Option.map_eq_some_iff.mp hx
                obtain ⟨e, he, hte⟩ := paired_get hpp ht
                have hte14 : PairAt H14 t e := S14 _ _ hte
                have hfl : ((L.take (k + 1)).filter (inc s)).length = ((L.take k).filter (inc s)).length + if inc s e = true then 1 else 0 := by
                  rw [List.take_succ, he, List.filter_append, List.length_append]
                  congr 1
                  by_cases z : inc s e = true
                  · simp [z]
                  · simp [z]
                walk_at "rd"
                refine ⟨rfl, ?_⟩
                walk_at "rd"
                refine rd_inI (row := [e.1, e.2]) (.inr (SqT.of hte14)) ?_
                walk_at "rd"
                rw [inc_in]
                by_cases z : inc s e = true
                · refine iteT' z ?_
                  rw [if_pos z] at hfl
                  walk_at "rd"
                  refine ⟨vs, hvs, ?_, Same.put S14 hD2, vs ++ [V.ref t], upd_same, by rw [hfl, List.length_append, lv]; rfl⟩
                  have h1 : ((L.take k).filter (inc s)).length ≤ L.length := by
                    have a := List.length_filter_le (inc s) (L.take k)
                    have b : (L.take k).length ≤ L.length := by rw [List.length_take]; omega
                    omega
                  exact Nat.lt_of_le_of_lt (by omega : vs.length ≤ 100) (by decide)
                · refine iteF' (by simpa using z) ?_
                  rw [if_neg z] at hfl
                  exact ⟨S14, vs, hvs, by rw [hfl, lv]; rfl⟩
              · obtain ⟨S14, vs, hvs, lv⟩ := pv
                rw [List.length_map, paired_len hpp, List.take_length] at lv
                walk_at "rd"
                refine rd_len hvs ?_
                refine ⟨_, S14 _ _ hD13, ?_, Same.put (S13.trans S14) hD, ?_⟩
                · rw [List.length_map, List.length_take]
                  exact Nat.lt_of_le_of_lt (Nat.min_le_right _ _) (by show 2 < sizeLine; decide)
                · rw [upd_same, lv]
                  congr 2
                  have : ([((i : Nat) : Int), ((o : Nat) : Int)].take (j + 1)) = ([((i : Nat) : Int), ((o : Nat) : Int)].take j) ++ [s] := by rw [List.take_succ, hs]; rfl
                  rw [this, List.map_append]
                  rfl
            · obtain ⟨S13, hD13⟩ := pv
              have I13 := I12.same S13
              obtain ⟨Dl13, Fx13, _, hl13, _⟩ := id I13
              walk_at "rd"
              refine rd_max (ns := [((L.filter (inc ((i : Nat) : Int))).length : Int), ((L.filter (inc ((o : Nat) : Int))).length : Int)]) hD13 (Nat.zero_lt_succ _) fun mx mm my => ?_
              have y1 := my _ List.mem_cons_self
              have y2 := my _ (List.mem_cons_of_mem _ List.mem_cons_self)
              walk_at "rd"
              by_cases c1 : mx < 1 + m
              · refine iteT' (decide_eq_true c1) ?_
                walk_at "rd"
                refine ⟨p, q, 3, rfl, Dl13, by decide, by decide, fun H14 w' d14 f14 w0 w3 => ?_⟩
                have I14 := I13.fix lp lq d14 f14
                obtain ⟨_, _, _, hl14, _⟩ := id I14
                walk_at "rd"
                by_cases c2 : 0 < w'
                · refine iteT' (decide_eq_true c2) ?_
                  walk_at "rd"
                  refine rd_ty hl14 ?_
                  walk_at "rd"
                  intro v H15 v0 S15 hv
                  have z1 : (0 : Int) + (i : Nat) = (i : Nat) := by omega
                  have z2 : (0 : Int) + (o : Nat) = (o : Nat) := by omega
                  rw [z1, z2] at hv
                  have hv : PairAt H15 v (((i : Nat) : Int), ((o : Nat) : Int)) := hv
                  obtain ⟨xs, hxs, lxs, I15⟩ := (I14.same S15).app lp lq l00 hv
                  walk_at "rd"
                  refine rd_app hxs (by omega) ?_
                  walk_at "rd"
                  exact ⟨⟨_, _, _, _, _, _, rfl⟩, _, I15, B.app hi (by omega) (by omega)⟩
                · refine iteF' (decide_eq_false c2) ?_
                  walk_at "rd"
                  exact ⟨⟨_, _, _, _, _, _, rfl⟩, L, I14, B.skip⟩
              · refine iteF' (decide_eq_false c1) ?_
                walk_at "rd"
                exact ⟨⟨_, _, _, _, _, _, rfl⟩, L, I13, B.skip⟩
          · obtain ⟨⟨o5, o6, o7, o9, o10, o11, rfl⟩, L, I, B⟩ := pv
            exact ⟨⟨_, _, _, _, _, _, _, rfl⟩, L, I, B.next (by omega)⟩
        · obtain ⟨⟨o5, o6, o7, o8, o9, o10, o11, rfl⟩, L, I, B⟩ := pv
          exact fin _ L _ rfl I B.good
      · refine iteF' (decide_eq_false h3) ?_
        walk_at "rd1"
        walk_at "rd1"
        refine fin _ _ _ rfl I ?_
        rw [← hsp]
        have := goodB_ok (circ_good n n1 n10 f.toNat (by omega))
        have e : ((f.toNat : Nat) : Int) = f := by omega
        rwa [e] at this
end
end K65

namespace K65
open PySem PySem.Spec PyProof.Rows L2 KX
local macro_rules | `(tactic| walk_at "rd1") => `(tactic| first
  | with_reducible refine rd_seq ?_
  | with_reducible refine rd_for ?_
  | with_reducible refine rd_lc ?_
  | with_reducible refine rd_asg ?_
  | ((with_reducible refine' rd_var ?rdv ?_); (case rdv => exact rfl))
  | with_reducible refine rd_c ?_
  | with_reducible refine rd_op ?_
  | with_reducible refine rd_un ?_
  | with_reducible refine rd_cons ?_
  | with_reducible refine rd_nil ?_
  | with_reducible refine rd_call ?_
  | with_reducible refine rd_cb ?_
  | with_reducible refine rd_tB ?_
  | with_reducible refine rd_test ?_
  | with_reducible refine rd_bl ?_
  | with_reducible refine rd_rI0 ?_
  | with_reducible refine rd_eqI ?_
  | with_reducible refine rd_neI ?_
  | with_reducible refine rd_rU ?_
  | with_reducible refine rd_name ?_
  | with_reducible refine rd_ifs ?_
  | with_reducible refine rd_and ?_
  | with_reducible refine rd_or ?_
  | with_reducible refine rd_not ?_
  | with_reducible refine rd_yes ?_
  | with_reducible refine rd_andV ?_
  | with_reducible refine rd_orV ?_
  | with_reducible refine rd_notV ?_
  | with_reducible refine rd_if ?_
  | with_reducible refine rd_isN ?_
  | with_reducible refine rd_iT ?_
  | with_reducible refine rd_iF ?_
  | with_reducible refine rd_ret ?_
  | with_reducible refine rd_retN ?_
  | with_reducible refine rd_drop ?_
  | with_reducible refine rd_next ?_
  | with_reducible refine rd_cont ?_
  | with_reducible refine rd_brk ?_
  | with_reducible refine rd_nx ?_
  | with_reducible refine rd_rt ?_
  | with_reducible refine rd_ct ?_
  | with_reducible refine rd_bk ?_
  | with_reducible refine rd_par ?_
  | with_reducible refine rd_par3 ?_
  | with_reducible refine rd_par2 ?_
  | with_reducible refine rd_par33 ?_
  | with_reducible refine rd_gcons ?_
  | with_reducible refine rd_gnil ?_
  | with_reducible refine rd_sub ?_
  | with_reducible refine rd_tup ?_
  | with_reducible refine rd_lst ?_
  | ((with_reducible refine rd_tupT ?hl ?_); (case hl => exact Nat.le_of_ble_eq_true rfl))
  | ((with_reducible refine rd_lstT ?hl ?_); (case hl => exact Nat.le_of_ble_eq_true rfl))
  | with_reducible refine rd_bm ?_
  | with_reducible refine rd_bm0 ?_
  | with_reducible refine rd_sl ?_
  | with_reducible refine rd_noP ?_
  | with_reducible refine rd_part ?_
  | with_reducible refine rd_int ?_
  | with_reducible refine rd_int1 ?_
  | with_reducible refine rd_fld ?_
  | with_reducible refine rd_then ?_
  | with_reducible refine rd_raise ?_
  | with_reducible refine rd_one ?_
  | with_reducible refine rd_sfld ?_
  | with_reducible refine rd_ilist ?_
  | with_reducible refine rd_itup ?_
  | with_reducible refine rd_rng1 ?_
  | with_reducible refine rd_enum ?_
  | with_reducible refine rd_enumT ?_)
local macro_rules | `(tactic| walk_at "rd") => `(tactic| repeat (walk_at "rd1"))
def spDrawn : Sp := fun vs H Q _ => ∃ (p q : Addr) (k : Int) (n : Nat), vs = [.ref p, .int k, .int (n : Nat)] ∧ Deal H p q ∧ 1 ≤ k ∧ k ≤ 4 ∧ 1 ≤ n ∧ n < 10 ∧
  ∀ (H' : Hp) (t a l : Addr) (ms : List Int) (ps : List Addr) (L : List (Int × Int)), Deal H' p q → Fix p q H H' → H' t = some (.tup [.ref a, .ref l]) → H a = none → H l = none → a ≠ l → a ≠ p → a ≠ q → l ≠ p → l ≠ q →
    H' a = some (.lst (ms.map V.int)) → ms.length = n → (∀ m ∈ ms, 0 ≤ m ∧ m < k) →
    H' l = some (.lst (ps.map V.ref)) → Paired (PairAt H') ps L → Good n 4 L → L.Pairwise lexlt → Q (.ref t) H'
section
variable {P : Program} {w : World} {K : PySem.W.Frag} {mg : Str → Option Value} {base : Heap} (T : TX K mg)
theorem G__law_network : FnOk P w K mg base CX0 3 T.f__law_network T.d__law_network ["deal", "kinds", "many"] spDrawn := by
  refine T.F__law_network.ok sc__law_network (fun vs H Q E h => ?_) fun cdv A outer s H vs Q E hr h => ⟨_, (pss_cons (ps_asg (pe_tup (pa_cons (pe_call (G__law_any T) (hr.mono (by decide)) (by rfl) T.m__law_any T.F__law_any.kp T.b__law_any .nil pass0 (by exact (pa_cons (pv 0) (pa_cons (pv 1) pa_nil)))) (pa_cons (pe_call (G__law_any T) (hr.mono (by decide)) (by rfl) T.m__law_any T.F__law_any.kp T.b__law_any .nil pass0 (by exact (pa_cons (pv 0) (pa_cons pe_int pa_nil)))) pa_nil))) (pg_tupK (K := K) (n := 2) (by rfl) (pgs_cons (pg_name (i := 3) sc__law_network.nd rfl (.inr rfl)) (pgs_cons (pg_name (i := 4) sc__law_network.nd rfl (.inr rfl)) pgs_nil)))) (pss_cons (ps_setLc (i := 5) (own := [("at", 6)]) (by rfl) sc__law_network.nd rfl rfl (sw_true rfl rfl rfl (by decide +kernel)) (pi_range1 (by rfl) T.n_range (by exact (pa_cons (pv 2) pa_nil))) (blkOk_by (own := [("at", 6)]) (N := N__law_network) (sc := defScope s__law_network) (by decide +kernel)) (fun _ _ _ _ _ => (pg_name (i := 6) sc__law_network.nd rfl (.inl rfl))) (fun _ _ _ _ _ => pts_nil) (fun _ _ _ _ _ => (pe_ifExp (pt_cmpR op_eq (pv 4) pe_int (nomark _)) (pe_op op_mod (pe_callTy call_int1 (by rfl) T.n_int (by decide +kernel) (by exact (pa_cons (pe_op op_add (pv 3) (pv 6)) pa_nil))) (pv 1)) (pe_call (G__law_any T) (hr.mono (by decide)) (by rfl) T.m__law_any T.F__law_any.kp T.b__law_any .nil pass0 (by exact (pa_cons (pv 0) (pa_cons (pv 1) pa_nil)))))) ) (pss_one (ps_ret (pe_tup (pa_cons (pv 5) (pa_cons (pe_call (G__law_links T) (hr.mono (by decide)) (by rfl) T.m__law_links T.F__law_links.kp T.b__law_links .nil pass0 (by exact (pa_cons (pv 0) (pa_cons (pv 2) pa_nil)))) pa_nil))))))), ?_⟩
  · obtain ⟨p, q, k, n, rfl, _⟩ := h
    rfl
  · obtain ⟨p, q, k, n, rfl, d, k1, k4, n1, n10, hQ⟩ := h
    walk_at "rd"
    refine ⟨p, q, k, rfl, d, by omega, by omega, fun H1 st d1 f1 st0 stk => ?_⟩
    walk_at "rd"
    refine ⟨p, q, 3, rfl, d1, by omega, by omega, fun H2 tn d2 f2 t0 t3 => ?_⟩
    walk_at "rd"
    intro t H3 tt0 S3 ht
    refine rd_gtup (Tup.of ht) rfl ?_
    have d3 := d2.same S3
    walk_at "rd"
    refine ⟨by omega, by omega, fun D hD => ?_⟩
    obtain ⟨d4, Dp, Dq⟩ := d3.new (o := .lst []) hD
    have D0 : H D = none := f1.free d1 (f2.free d2 (S3.free hD))
    refine lc_range (lo := 0) (n := n) (fun i H' => Deal H' p q ∧ Fix p q H3 H' ∧ ∃ ms : List Int, H' D = some (.lst (ms.map V.int)) ∧ ms.length = i ∧ ∀ m ∈ ms, 0 ≤ m ∧ m < k)
      ⟨d4, Fix.new hD, [], upd_same, rfl, by simp⟩ (fun i H' hi pv => ?_) (fun H' pv => ?_)
    · obtain ⟨d5, f5, ms, hms, lms, bms⟩ := pv
      have put : ∀ (H6 : Hp) (j : Int), Deal H6 p q → Fix p q H' H6 → 0 ≤ j → j < k → ∃ acc, H6 D = some (.lst acc) ∧ acc.length < sizeLine ∧ (Deal (upd H6 D (.lst (acc ++ [V.int j]))) p q ∧ Fix p q H3 (upd H6 D (.lst (acc ++ [V.int j]))) ∧
          ∃ ms : List Int, upd H6 D (.lst (acc ++ [V.int j])) D = some (.lst (ms.map V.int)) ∧ ms.length = i + 1 ∧ ∀ m ∈ ms, 0 ≤ m ∧ m < k) := fun H6 j d6 f6 j0 jk => by
        refine ⟨_, f6 _ _ Dp Dq hms, ?_, d6.off Dp Dq, (f5.trans f6).upd hD, ms ++ [j], ?_, by simp [lms], fun m hm => ?_⟩
        · rw [List.length_map]
          exact Nat.lt_of_le_of_lt (by omega : ms.length ≤ 100) (by decide)
        · rw [upd_same]; simp
        · rcases List.mem_append.mp hm with z | z
          · exact bms m z
          · rw [List.mem_singleton.mp z]; omega
      walk_at "rd"
      refine ⟨rfl, ?_⟩
      walk_at "rd"
      by_cases c : tn = 0
      · refine iteT' (decide_eq_true c) ?_
        walk_at "rd"
        refine .inl ⟨_, rfl, ?_⟩
        walk_at "rd"
        refine rd_rI (by omega) ?_
        exact put H' _ d5 (Fix.refl _ _ _) (Int.emod_nonneg _ (by omega)) (Int.emod_lt_of_pos _ (by omega))
      · refine iteF' (decide_eq_false c) ?_
        walk_at "rd"
        refine ⟨p, q, k, rfl, d5, by omega, by omega, fun H6 j d6 f6 j0 jk => ?_⟩
        exact put H6 j d6 f6 j0 jk
    · obtain ⟨d5, f5, ms, hms, lms, bms⟩ := pv
      walk_at "rd"
      refine ⟨p, q, n, rfl, d5, n1, n10, fun H6 l ps L d6 f6 l0 lp lq hl hps g sr => ?_⟩
      walk_at "rd"
      intro t' H7 t'0 S7 ht'
      have hms6 := f6 _ _ Dp Dq hms
      have Dl : D ≠ l := fun z => by rw [z, l0] at hms; cases hms
      exact hQ H7 t' D l ms ps L (d6.same S7) (f1.trans (f2.trans ((Fix.same S3).trans (f5.trans (f6.trans (Fix.same S7)))))) ht' D0 (f1.free d1 (f2.free d2 (S3.free (f5.free d5 l0)))) Dl Dp Dq lp lq
        (S7 _ _ hms6) lms bms (S7 _ _ hl) (pairs_same hps S7) g sr
end
end K65

namespace K65
open PySem PySem.Spec PyProof.Rows L2 KX
local macro_rules | `(tactic| walk_at "rd1") => `(tactic| first
  | with_reducible refine rd_seq ?_
  | with_reducible refine rd_for ?_
  | with_reducible refine rd_lc ?_
  | with_reducible refine rd_asg ?_
  | ((with_reducible refine' rd_var ?rdv ?_); (case rdv => exact rfl))
  | with_reducible refine rd_c ?_
  | with_reducible refine rd_op ?_
  | with_reducible refine rd_un ?_
  | with_reducible refine rd_cons ?_
  | with_reducible refine rd_nil ?_
  | with_reducible refine rd_call ?_
  | with_reducible refine rd_cb ?_
  | with_reducible refine rd_tB ?_
  | with_reducible refine rd_test ?_
  | with_reducible refine rd_bl ?_
  | with_reducible refine rd_rI0 ?_
  | with_reducible refine rd_eqI ?_
  | with_reducible refine rd_neI ?_
  | with_reducible refine rd_rU ?_
  | with_reducible refine rd_name ?_
  | with_reducible refine rd_ifs ?_
  | with_reducible refine rd_and ?_
  | with_reducible refine rd_or ?_
  | with_reducible refine rd_not ?_
  | with_reducible refine rd_yes ?_
  | with_reducible refine rd_andV ?_
  | with_reducible refine rd_orV ?_
  | with_reducible refine rd_notV ?_
  | with_reducible refine rd_if ?_
  | with_reducible refine rd_isN ?_
  | with_reducible refine rd_iT ?_
  | with_reducible refine rd_iF ?_
  | with_reducible refine rd_ret ?_
  | with_reducible refine rd_retN ?_
  | with_reducible refine rd_drop ?_
  | with_reducible refine rd_next ?_
  | with_reducible refine rd_cont ?_
  | with_reducible refine rd_brk ?_
  | with_reducible refine rd_nx ?_
  | with_reducible refine rd_rt ?_
  | with_reducible refine rd_ct ?_
  | with_reducible refine rd_bk ?_
  | with_reducible refine rd_par ?_
  | with_reducible refine rd_par3 ?_
  | with_reducible refine rd_par2 ?_
  | with_reducible refine rd_par33 ?_
  | with_reducible refine rd_gcons ?_
  | with_reducible refine rd_gnil ?_
  | with_reducible refine rd_sub ?_
  | with_reducible refine rd_tup ?_
  | with_reducible refine rd_lst ?_
  | ((with_reducible refine rd_tupT ?hl ?_); (case hl => exact Nat.le_of_ble_eq_true rfl))
  | ((with_reducible refine rd_lstT ?hl ?_); (case hl => exact Nat.le_of_ble_eq_true rfl))
  | with_reducible refine rd_bm ?_
  | with_reducible refine rd_bm0 ?_
  | with_reducible refine rd_sl ?_
  | with_reducible refine rd_noP ?_
  | with_reducible refine rd_part ?_
  | with_reducible refine rd_int ?_
  | with_reducible refine rd_int1 ?_
  | with_reducible refine rd_fld ?_
  | with_reducible refine rd_then ?_
  | with_reducible refine rd_raise ?_
  | with_reducible refine rd_one ?_
  | with_reducible refine rd_sfld ?_
  | with_reducible refine rd_ilist ?_
  | with_reducible refine rd_itup ?_
  | with_reducible refine rd_rng1 ?_
  | with_reducible refine rd_enum ?_
  | with_reducible refine rd_enumT ?_)
local macro_rules | `(tactic| walk_at "rd") => `(tactic| repeat (walk_at "rd1"))
/-- a comprehension over a list or a tuple, its values told -/
theorem lcv_both {K : PySem.W.Frag} {g : TG} {te ti : TE} {vs : List Nat} {σ : L2.St} {H1 : Hp} {x : V} {xs : List V} {Q : Addr → Hp → Prop} (zs : List V) (hx : SqX K H1 x (some xs)) (hi : ∀ R : VK, R x H1 → ti σ H1 R) (lz : zs.length = xs.length) (hz : zs.length < 1000000)
    (hs : ∀ (i : Nat) (x z : V) (H' : Hp), xs[i]? = some x → zs[i]? = some z → Same H1 H' → ∀ R : VK, (∀ H4, Same H' H4 → R z H4) → g x (wipe σ vs) H' fun σ2 H2 => wipe σ2 vs = wipe σ vs ∧ te σ2 H2 R)
    (hd : ∀ H' D, Same H1 H' → H' D = some (.lst zs) → Q D H') {R : It → Hp → Prop} (hR : R = fun J H1 => ∀ D, H1 D = none → ∃ W : Nat → Nat → Hp → Prop, (∃ m, W 0 m (upd H1 D (.lst []))) ∧ ∀ i m H, W i m H →
      (J.stop i H ∧ Q D H) ∨ (J.go i H ∧ ∃ Nx : Hp → Prop, (∀ H', Nx H' → ∃ m', m' < m ∧ W (i + 1) m' H') ∧ ∀ x H', J.yld i H x H' → g x (wipe σ vs) H' fun σ2 H2 => wipe σ2 vs = wipe σ vs ∧ tYes σ2 H2 fun b H3 =>
        if b = true then te σ2 H3 fun y H4 => ∃ acc, H4 D = some (.lst acc) ∧ acc.length < sizeLine ∧ Nx (upd H4 D (.lst (acc ++ [y]))) else Nx H3)) : iList K ti σ H1 R ∨ iTup K ti σ H1 R := by
  subst hR
  cases hx with
  | lst h => exact .inl (hi _ ⟨_, rfl, ⟨_, SqL.of h⟩, fun D hD => lcv_list zs h lz hz hD hs fun H' S e => hd H' D S e⟩)
  | tup h => exact .inr (hi _ ⟨_, rfl, ⟨_, h.sq⟩, fun D hD => lcv_tup zs h lz hz hD hs fun H' S e => hd H' D S e⟩)
/-- a tuple of so many -/
def spIsTup (K : PySem.W.Frag) : L2.Sp := fun vs H Q _ => ∃ (x : V) (k : Int), vs = [x, .int k] ∧
  ((∃ n, TyX K H x (.type n) ∧ kitB n "tuple" = some false ∧ Q (.bl false) H) ∨ ∃ a xs, x = .ref a ∧ Tup H a xs ∧ Q (.bl (decide ((xs.length : Int) = k))) H)
inductive NbIs (K : PySem.W.Frag) (H : Hp) : V → Bool → Prop
  | oth {x : V} (s : SqX K H x none) : NbIs K H x false
  | long {x : V} {xs : List V} (s : SqX K H x (some xs)) (l : 4 < xs.length) : NbIs K H x false
  | all {x : V} {xs : List V} {os : List (Option Int)} (s : SqX K H x (some xs)) (k : Paired (Kin K H) xs os) (l : xs.length ≤ 4) : NbIs K H x (os.all bel4)
def spNb (K : PySem.W.Frag) : L2.Sp := fun vs H Q _ => ∃ x b, vs = [x] ∧ NbIs K H x b ∧ ∀ H', Same H H' → Q (.bl b) H'
def spMV (K : PySem.W.Frag) (CV : Addr) : L2.Sp := fun vs H Q E => ∃ x z o b, vs = [x, z] ∧ Kin K H x o ∧ NbIs K H z b ∧
  ((bel4 o && b) = false → ErrAt CV E H 0) ∧
  ((bel4 o && b) = true → ∃ (m : Int) (ns : List Int), x = .int m ∧ SqX K H z (some (ns.map V.int)) ∧ ns.length < 64 ∧
    ∀ (ns' : List Int) (r p : Addr) (H' : Hp), Same H H' → ns'.Perm ns → ns'.Pairwise (· ≤ ·) → H' r = some (.tup (ns'.map V.int)) → H' p = some (.tup [.int m, .ref r]) → Q (.ref p) H')
section
variable {P : Program} {w : World} {K : PySem.W.Frag} {mg : Str → Option Value} {base : Heap} (T : TX K mg)
theorem G_is_tuple_of : FnOk P w K mg base CX0 1 T.f_is_tuple_of T.d_is_tuple_of ["value", "length"] (spIsTup K) := by
  refine T.F_is_tuple_of.ok sc_is_tuple_of (fun vs H Q E h => ?_) fun cdv A outer s H vs Q E hr h => ⟨_, (pss_one (ps_ret (pe_and (pe_callB (cr_isiK (K := K)) (by rfl) T.n_isinstance (by decide +kernel) (by exact (pa_cons (pv 0) (pa_cons (pe_bltn (v := .ty "tuple") rfl T.n_tuple (by decide +kernel) rfl) pa_nil)))) (pe_one (pe_cmpR op_eq (pe_callB (cr_lenK (K := K)) (by rfl) T.n_len (by decide +kernel) (by exact (pa_cons (pv 0) pa_nil))) (pv 1) (nomark _)))))), ?_⟩
  · obtain ⟨x, k, rfl, _⟩ := h
    rfl
  · obtain ⟨x, k, rfl, h⟩ := h
    walk_at "rd"
    rcases h with ⟨n, ty, k1, hQ⟩ | ⟨a, xs, rfl, ha, hQ⟩
    · refine ⟨_, _, _, _, _, rfl, .ty "tuple", ty, kit_ty k1, ?_⟩
      walk_at "rd"
      exact hQ
    · refine ⟨_, _, _, _, true, rfl, .ty "tuple", ha.ty, kit_ty (by decide +kernel), ?_⟩
      walk_at "rd"
      refine rd_lenTup ha ?_
      walk_at "rd"
      exact hQ
theorem G_are_neighbours : FnOk P w K mg base CX0 5 T.f_are_neighbours T.d_are_neighbours ["value"] (spNb K) := by
  refine T.F_are_neighbours.ok sc_are_neighbours (fun vs H Q E h => ?_) fun cdv A outer s H vs Q E hr h => ⟨_, (pss_cons (ps_if (PW.pt (pw_or (pt_not (pt_val (pe_call (G_is_sequence T) (hr.mono (by decide)) (by rfl) T.m_is_sequence T.F_is_sequence.kp T.b_is_sequence .nil pass0 (by exact (pa_cons (pv 0) pa_nil))))) (pw_or1 (pt_cmpR op_gt (pe_callB (cr_lenK (K := K)) (by rfl) T.n_len (by decide +kernel) (by exact (pa_cons (pv 0) pa_nil))) (pe_glob (v := .int 4) rfl T.m_MOST_NEIGHBOURS ⟨_, rfl⟩) (nomark _))))) (pss_one (ps_ret pe_bl)) pss_nil) (pss_one (ps_ret (pe_callB (cr_allK (K := K) rfl) (by rfl) T.n_all (by decide +kernel) (by exact (pa_cons (by exact (pe_lc (own := [("mode", 1)]) (by rfl) sc_are_neighbours.nd (PI.or (pi_listK (K := K) (pv 0)) (pi_tupK (K := K) (pv 0))) (blkOk_by (own := [("mode", 1)]) (N := N_are_neighbours) (sc := defScope s_are_neighbours) (by decide +kernel)) (fun _ _ _ _ _ => (pg_name (i := 1) sc_are_neighbours.nd rfl (.inl rfl))) (fun _ _ _ _ _ => pts_nil) (fun _ _ _ _ _ => (pe_call (G_is_mode T) (hr.mono (by decide)) (by rfl) T.m_is_mode T.F_is_mode.kp T.b_is_mode .nil pass0 (by exact (pa_cons (pv 1) pa_nil)))) )) pa_nil)))))), ?_⟩
  · obtain ⟨x, b, rfl, _⟩ := h
    rfl
  · obtain ⟨x, b, rfl, hn, hQ⟩ := h
    walk_at "rd"
    cases hn with
    | oth s =>
      refine ⟨_, _, rfl, s, fun H1 S1 => ?_⟩
      walk_at "rd"
      refine rd_iT ?_
      walk_at "rd"
      exact hQ H1 S1
    | @long xs s l =>
      refine ⟨_, _, rfl, s, fun H1 S1 => ?_⟩
      walk_at "rd"
      refine rd_iF ?_
      walk_at "rd"
      obtain ⟨a, rfl, hs⟩ := (sqx_same s S1).any
      refine rd_lenB hs ?_
      walk_at "rd"
      refine iteT' (decide_eq_true (by omega)) ?_
      walk_at "rd"
      exact hQ H1 S1
    | @all xs os s k l =>
      refine ⟨_, _, rfl, s, fun H1 S1 => ?_⟩
      walk_at "rd"
      refine rd_iF ?_
      walk_at "rd"
      have s1 := sqx_same s S1
      have k1 := kins_same k S1
      have lo := paired_len k
      obtain ⟨a, rfl, hs⟩ := s1.any
      refine rd_lenB hs ?_
      walk_at "rd"
      refine iteF' (decide_eq_false (by omega)) ?_
      walk_at "rd"
      refine lcv_both (xs := xs) (os.map fun o => V.bl (bel4 o)) s1 (by intro R r; exact rd_var rfl r) (by rw [List.length_map]; omega) (by rw [List.length_map]; omega) (fun i x z H2 hx hz S2 R hR => ?_) (fun H2 D S2 hD => ?_) rfl
      · rw [List.getElem?_map] at hz
        obtain ⟨o, ho, rfl⟩ := Option.map_eq_some_iff.mp hz
        obtain ⟨o', ho', ko⟩ := paired_get k1 hx
        rw [ho] at ho'
        cases ho'
        walk_at "rd"
        refine ⟨rfl, ?_⟩
        walk_at "rd"
        exact ⟨_, _, rfl, kin_same ko S2, hR H2 (Same.refl _)⟩
      · walk_at "rd"
        have e : (os.map fun o => V.bl (bel4 o)) = (os.map bel4).map V.bl := by simp
        rw [e] at hD
        refine ⟨D, os.map bel4, rfl, SqL.of hD, ?_⟩
        have e2 : (os.map bel4).all id = os.all bel4 := by simp [List.all_map]
        rw [e2]
        exact hQ H2 (S1.trans S2)
theorem G_made_view : FnOk P w K mg base (L2.CX P w) 6 T.f_made_view T.d_made_view ["mode", "neighbours"] (spMV K T.c_InvalidView) := by
  refine T.F_made_view.okX sc_made_view (fun vs H Q E h => ?_) fun cdv A outer s H vs Q E hr h => ⟨_, (pss_cons (ps_if (PW.pt (pw_or (pt_not (pt_val (pe_call (G_is_mode T) (hr.mono (by decide)) (by rfl) T.m_is_mode T.F_is_mode.kp T.b_is_mode .nil pass0 (by exact (pa_cons (pv 0) pa_nil))))) (pw_or1 (pt_not (pt_val (pe_call (G_are_neighbours T) (hr.mono (by decide)) (by rfl) T.m_are_neighbours T.F_are_neighbours.kp T.b_are_neighbours .nil pass0 (by exact (pa_cons (pv 1) pa_nil)))))))) (pss_one (ps_raiseErrZ rfl T.E_InvalidView hr (takes_of rfl rfl rfl rfl) (by exact (pa_cons pe_int pa_nil)))) pss_nil) (pss_one (ps_ret (pe_tup (pa_cons (pv 0) (pa_cons (pe_tupleK (K := K) (by rfl) T.n_tuple (pe_callB (KX.CallR.or (cr_sortedK (K := K)) (cr_sortTK (K := K))) (by rfl) T.n_sorted (by decide +kernel) (by exact (pa_cons (pv 1) pa_nil)))) pa_nil)))))), ?_⟩
  · obtain ⟨x, z, o, b, rfl, _⟩ := h
    rfl
  · obtain ⟨x, z, o, b, rfl, k, hn, hE, hQ⟩ := h
    walk_at "rd"
    refine ⟨_, _, rfl, k, ?_⟩
    walk_at "rd"
    cases hb : bel4 o with
    | false =>
      refine rd_iT ?_
      walk_at "rd"
      exact fun d hd => hE (by rw [hb]; rfl) H d (Same.refl H) hd
    | true =>
      refine rd_iF ?_
      walk_at "rd"
      refine ⟨_, _, rfl, hn, fun H1 S1 => ?_⟩
      walk_at "rd"
      cases b with
      | false =>
        refine rd_iT ?_
        walk_at "rd"
        exact fun d hd => hE (by rw [Bool.and_false]) H1 d S1 hd
      | true =>
        refine rd_iF ?_
        walk_at "rd"
        obtain ⟨m, ns, rfl, sq, l, hQ⟩ := hQ (by rw [hb]; rfl)
        have fin : ∀ ns' : List Int, ns'.Perm ns → ns'.Pairwise (· ≤ ·) → NewO H1 (.lst (ns'.map V.int)) fun x H' => kTup K x H' fun y H'' => tNil (L2.start N_made_view [V.int m, z]) H'' fun xs H2 => TupTail (fun v H3 => Q v H3) (V.int m :: y :: xs) H2 := fun ns' pm srt => by
          intro p H2 p0 S2 hp
          refine rd_tupL hp ?_
          intro q H3 q0 S3 hq
          refine rd_nil (rd_tupT (by show 2 ≤ 1000; decide) ?_)
          intro t H4 t0 S4 ht
          exact hQ ns' q t H4 (((S1.trans S2).trans S3).trans S4) pm srt (S4 _ _ hq) ht
        have sq1 := sqx_same sq S1
        cases sq1 with
        | lst h => exact .inl ⟨_, ns, rfl, SqL.of h, l, fun ns' p perm srt hp => new_of (fin ns' perm srt) p hp⟩
        | tup h => exact .inr ⟨_, ns, rfl, h.sq, l, fun ns' p perm srt hp => new_of (fin ns' perm srt) p hp⟩
end
end K65

namespace K65
open PySem PySem.Spec PyProof.Rows L2 KX
/-! ### networks made, and refused -/
/-- the first index where it goes wrong -/
def BadAt (os : List (Option Int)) (i : Nat) : Prop := (∃ o, os[i]? = some o ∧ bel4 o = false) ∧ ∀ j o', j < i → os[j]? = some o' → bel4 o' = true
theorem BadAt.uniq {os : List (Option Int)} {i j : Nat} (h : BadAt os i) (h' : BadAt os j) : i = j := by
  obtain ⟨⟨o, e, b⟩, f⟩ := h
  obtain ⟨⟨o', e', b'⟩, f'⟩ := h'
  rcases Nat.lt_trichotomy i j with z | z | z
  · rw [f' i o z e] at b; cases b
  · exact z
  · rw [f j o' z e'] at b'; cases b'
/-- the first link that cannot be -/
def BadL (n : Nat) (es : List (Option (Int × Int))) (i : Nat) : Prop := ∃ e R, es[i]? = some e ∧ runP (emptyR n) (es.take i) = some R ∧ okL R e = false
theorem runP_take : ∀ (es : List (Option (Int × Int))) (i : Nat) (R R' : List (List Int)), runP R es = some R' → ∃ R1, runP R (es.take i) = some R1
  | es, 0, R, R', _ => ⟨R, by rw [List.take_zero]; rfl⟩
  | [], i + 1, R, R', _ => ⟨R, rfl⟩
  | e :: es, i + 1, R, R', h => by
    cases hs : stepL R e with
    | none =>
      have h : (stepL R e).bind (fun R' => runP R' es) = some R' := h
      rw [hs] at h; cases h
    | some R2 =>
      have h' : (stepL R e).bind (fun R' => runP R' es) = some R' := h
      rw [hs] at h'
      obtain ⟨R1, h1⟩ := runP_take es i R2 R' h'
      refine ⟨R1, ?_⟩
      show (stepL R e).bind (fun R' => runP R' (es.take i)) = some R1
      rw [hs]
      exact h1
theorem BadL.next {n : Nat} {es : List (Option (Int × Int))} {i : Nat} (h : BadL n es i) : runP (emptyR n) (es.take (i + 1)) = none := by
  obtain ⟨e, R, h1, h2, h3⟩ := h
  have : es.take (i + 1) = es.take i ++ [e] := by rw [List.take_succ, h1]; rfl
  rw [this, runP_snoc, h2]
  show stepL R e = none
  unfold stepL
  rw [if_neg (by rw [h3]; decide)]
theorem BadL.none {n : Nat} {es : List (Option (Int × Int))} {i j : Nat} (h : BadL n es i) (hj : i < j) : runP (emptyR n) (es.take j) = none := by
  cases e : runP (emptyR n) (es.take j) with
  | none => rfl
  | some R =>
    obtain ⟨R1, h1⟩ := runP_take _ (i + 1) _ _ e
    rw [List.take_take, Nat.min_eq_left hj, h.next] at h1
    cases h1
theorem BadL.uniq {n : Nat} {es : List (Option (Int × Int))} {i j : Nat} (h : BadL n es i) (h' : BadL n es j) : i = j := by
  rcases Nat.lt_trichotomy i j with z | z | z
  · obtain ⟨_, R, _, h2, _⟩ := h'
    rw [h.none z] at h2; cases h2
  · exact z
  · obtain ⟨_, R, _, h2, _⟩ := h
    rw [h'.none z] at h2; cases h2
theorem BadL.bad {n : Nat} {es : List (Option (Int × Int))} {i : Nat} (h : BadL n es i) : runP (emptyR n) es = .none := by
  obtain ⟨e, R, h1, h2, h3⟩ := id h
  have hi := (List.getElem?_eq_some_iff.mp h1).1
  have := h.none (j := es.length) hi
  rwa [List.take_length] at this
section
variable {K : PySem.W.Frag} {C CI s dx : Addr} {x z : V} {H : Hp} {Q : VK} {E : XK}
abbrev made (H : Hp) (C s dx : Addr) : Hp := upd (upd H dx (.own s)) s (.ins C dx [])
theorem made_same (hs : H s = none) (hd : H dx = none) : Same H (made H C s dx) := fun a o e => by
  show upd (upd H dx (.own s)) s _ a = some o
  rw [upd_ne (fun y => by rw [y, hs] at e; cases e), upd_ne (fun y => by rw [y, hd] at e; cases e)]
  exact e
theorem ex_same {H' : Hp} (hs : H s = none) (hd : H dx = none) (h : Ex s (made H C s dx) H') : Same H H' := fun a o e =>
  h a o (fun y => by rw [y, hs] at e; cases e) (made_same hs hd a o e)
/-- what a handler of refusals gets -/
def Told (CI : Addr) (E : XK) (H : Hp) (i : Int) : Prop := ∀ H' d, Same H H' → H' d = none → E (.ref CI) (some d) (upd H' d (.xd [(("at" : Str), .int i)]))
theorem told_x {i : Int} (h : Told CI E H i) (hs : H s = none) (hd : H dx = none) : ErrX CI E s (made H C s dx) i := fun H' d e hd' => h H' d (ex_same hs hd e) hd'
/-- modes that are none -/
theorem net_badM {o : Option (List V)} {i : Nat} (hs : H s = none) (hd : H dx = none) (hx : SqX K H x o)
    (hb : (o = none ∨ o = some []) ∧ i = 0 ∨ ∃ xs os, o = some xs ∧ Paired (Kin K H) xs os ∧ BadAt os i) (hE : Told CI E H i) : spNet K C CI [.ref s, x, z] (made H C s dx) Q E := by
  have S : Same H (made H C s dx) := made_same hs hd
  refine ⟨s, dx, x, z, o, rfl, upd_same, sqx_same hx S, fun e => ?_, fun e => ?_, fun xs e h0 => ?_⟩
  · rcases hb with ⟨_, rfl⟩ | ⟨xs, os, e', _⟩
    · exact told_x hE hs hd
    · rw [e'] at e; cases e
  · rcases hb with ⟨_, rfl⟩ | ⟨xs, os, e', p, ⟨o', h1, h2⟩, _⟩
    · exact told_x hE hs hd
    · rw [e'] at e; cases e
      cases p
      simp at h1
  · rcases hb with ⟨e' | e', rfl⟩ | ⟨xs', os, e', p, b⟩
    · rw [e'] at e; cases e
    · rw [e'] at e; cases e; exact absurd rfl h0
    · rw [e'] at e; cases e
      refine ⟨os, paired_mono p fun _ _ k => kin_same k S, fun j o' h1 h2 h3 => ?_, fun all => ?_⟩
      · have : i = j := b.uniq ⟨⟨o', h1, h3⟩, h2⟩
        subst this
        exact told_x hE hs hd
      · obtain ⟨⟨o', h1, h2⟩, _⟩ := b
        rw [all o' (List.mem_of_getElem? h1)] at h2; cases h2
theorem bel4_of {m : Int} (h0 : 0 ≤ m) (h1 : m < 4) : bel4 (some m) = true := by
  show (decide (0 ≤ m) && decide (m < 4)) = true
  rw [decide_eq_true h0, decide_eq_true h1]; rfl
theorem kin_all (K : PySem.W.Frag) (H : Hp) : ∀ ms : List Int, Paired (Kin K H) (ms.map V.int) (ms.map some)
  | [] => .nil
  | m :: ms => .cons (.int m) (kin_all K H ms)
/-- good modes, links that are none -/
theorem net_badL {ms : List Int} {o : Option (List V)} {i : Nat} (hs : H s = none) (hd : H dx = none) (hx : SqX K H x (some (ms.map V.int))) (m0 : ms ≠ []) (ml : ms.length < 1000) (mb : ∀ m ∈ ms, 0 ≤ m ∧ m < 4) (hz : SqX K H z o)
    (hb : o = none ∧ i = 0 ∨ ∃ zs es, o = some zs ∧ Paired (LkIs K H ms.length) zs es ∧ BadL ms.length es i) (hE : Told CI E H ((ms.length : Nat) + i)) : spNet K C CI [.ref s, x, z] (made H C s dx) Q E := by
  have S : Same H (made H C s dx) := made_same hs hd
  refine ⟨s, dx, x, z, _, rfl, upd_same, sqx_same hx S, fun e => (by cases e), fun e => ?_, fun xs e h0 => ?_⟩
  · exact absurd (List.map_eq_nil_iff.mp (Option.some.inj e)) m0
  · cases e
    refine ⟨ms.map some, kin_all K _ ms, fun j o' h1 _ h3 => ?_, fun _ => ⟨by rw [List.length_map]; exact ml, ms, rfl, o, sqx_same hz S, fun e => ?_, fun zs e => ?_⟩⟩
    · rw [List.getElem?_map] at h1
      obtain ⟨m, hm, rfl⟩ := Option.map_eq_some_iff.mp h1
      obtain ⟨a, b⟩ := mb m (List.mem_of_getElem? hm)
      rw [bel4_of a b] at h3; cases h3
    · rcases hb with ⟨_, rfl⟩ | ⟨zs, es, e', _⟩
      · have : ((ms.length : Nat) : Int) + ((0 : Nat) : Int) = (ms.length : Nat) := by omega
        rw [this] at hE
        exact told_x hE hs hd
      · rw [e'] at e; cases e
    · rcases hb with ⟨e', _⟩ | ⟨zs', es, e', p, b⟩
      · rw [e'] at e; cases e
      · rw [e'] at e; cases e
        refine ⟨es, paired_mono p fun _ _ k => k.same S, fun j e R h1 h2 h3 => ?_, fun R hR => ?_⟩
        · have : i = j := b.uniq ⟨e, R, h1, h2, h3⟩
          subst this
          exact told_x hE hs hd
        · rw [b.bad] at hR; cases hR
theorem le4_run : ∀ (M : List (Int × Int)) (R R' : List (List Int)), (∀ e ∈ M, 0 ≤ e.1 ∧ 0 ≤ e.2 ∧ e.1 ≠ e.2) → Le4 R → runP R (M.map some) = some R' → Le4 R'
  | [], R, R', _, h, e => by cases e; exact h
  | (a, b) :: M, R, R', hM, h, e => by
    have e : (stepL R (some (a, b))).bind (fun R1 => runP R1 (M.map some)) = some R' := e
    cases hs : stepL R (some (a, b)) with
    | none => rw [hs] at e; cases e
    | some R1 =>
      rw [hs] at e
      obtain ⟨h1, h2, h3⟩ := hM _ List.mem_cons_self
      have h1 : 0 ≤ a := h1
      have h2 : 0 ≤ b := h2
      have h3 : a ≠ b := h3
      exact le4_run M R1 R' (fun e he => hM e (List.mem_cons_of_mem _ he)) (h.step (fun x y z => by cases z; omega) hs) e
theorem le4_empty (n : Nat) : Le4 (emptyR n) := fun row hr => by
  unfold emptyR at hr
  rw [(List.mem_replicate.mp hr).2]
  exact Nat.zero_le _
/-- good modes, good links -/
theorem net_good {ms : List Int} {zs : List V} {L M : List (Int × Int)} (hs : H s = none) (hd : H dx = none) (hx : SqX K H x (some (ms.map V.int))) (m0 : ms ≠ []) (ml : ms.length < 1000) (mb : ∀ m ∈ ms, 0 ≤ m ∧ m < 4) (hz : SqX K H z (some zs))
    (hp : Paired (LkIs K H ms.length) zs (M.map some)) (g : Good ms.length 4 L) (srt : L.Pairwise lexlt) (pm : (M.map norm).Perm L)
    (hQ : ∀ H' R', Same H H' → NetAt C H' s ms R' L → Q .non H') : spNet K C CI [.ref s, x, z] (made H C s dx) Q E := by
  have S : Same H (made H C s dx) := made_same hs hd
  obtain ⟨R0, hR0, _⟩ := runs_nb (runs_of g pm) M.length (Nat.le_refl _)
  rw [List.take_length] at hR0
  have rs := runs_of g pm
  have hM : ∀ e ∈ M, 0 ≤ e.1 ∧ 0 ≤ e.2 ∧ e.1 ≠ e.2 := fun e he => by
    obtain ⟨i, hi⟩ := List.getElem?_of_mem he
    obtain ⟨a, _, b, _, c, _⟩ := rs i e hi
    exact ⟨a, b, c⟩
  refine ⟨s, dx, x, z, _, rfl, upd_same, sqx_same hx S, fun e => (by cases e), fun e => ?_, fun xs e h0 => ?_⟩
  · exact absurd (List.map_eq_nil_iff.mp (Option.some.inj e)) m0
  · cases e
    refine ⟨ms.map some, kin_all K _ ms, fun j o' h1 _ h3 => ?_, fun _ => ⟨by rw [List.length_map]; exact ml, ms, rfl, _, sqx_same hz S, fun e => (by cases e), fun zs' e => ?_⟩⟩
    · rw [List.getElem?_map] at h1
      obtain ⟨m, hm, rfl⟩ := Option.map_eq_some_iff.mp h1
      obtain ⟨a, b⟩ := mb m (List.mem_of_getElem? hm)
      rw [bel4_of a b] at h3; cases h3
    · cases e
      refine ⟨M.map some, paired_mono hp fun _ _ k => k.same S, fun j e R h1 h2 h3 => ?_, fun R hR h4 H' R' ex pr net => ?_⟩
      · have b : BadL ms.length (M.map some) j := ⟨e, R, h1, h2, h3⟩
        rw [b.bad] at hR0; cases hR0
      · rw [edges_back g srt pm hR pr] at net
        exact hQ H' R' (ex_same hs hd ex) net
end
theorem norm_id {L : List (Int × Int)} (h : ∀ e ∈ L, e.1 < e.2) : L.map norm = L := by
  induction L with
  | nil => rfl
  | cons e L ih =>
    rw [List.map_cons, ih fun x hx => h x (List.mem_cons_of_mem _ hx)]
    have := h e List.mem_cons_self
    unfold norm
    rw [if_pos (by omega)]
theorem norm_good {n d : Nat} {L : List (Int × Int)} (g : Good n d L) : (L.map norm).Perm L := by
  rw [norm_id fun e he => (g.rng e he).2.1]
theorem lk_pairs {K : PySem.W.Frag} {H : Hp} {n : Nat} {ps : List Addr} {L : List (Int × Int)} (h : Paired (PairAt H) ps L) (r : ∀ e ∈ L, 0 ≤ e.1 ∧ e.1 < e.2 ∧ e.2 < n) : Paired (LkIs K H n) (ps.map V.ref) (L.map some) := by
  induction h with
  | nil => exact .nil
  | @cons p e ps L a _ ih =>
    obtain ⟨h1, h2, h3⟩ := r e List.mem_cons_self
    exact .cons (.ok (.tup (Tup.of a)) h1 (by omega) (by omega) h3 (by omega)) (ih fun x hx => r x (List.mem_cons_of_mem _ hx))
/-! ### how many links there are -/
theorem split_len {α : Type} (f : α → Bool) : ∀ L : List α, L.length = (L.filter f).length + (L.filter fun x => !f x).length
  | [] => rfl
  | x :: L => by
    have := split_len f L
    rw [List.filter_cons, List.filter_cons]
    by_cases h : f x = true
    · simp [h]; omega
    · simp [h]; omega
theorem fst_len {d : Nat} : ∀ (n : Nat) (L : List (Int × Int)), (∀ e ∈ L, 0 ≤ e.1 ∧ e.1 < n) → (∀ s : Int, (L.filter fun e => decide (e.1 = s)).length ≤ d) → L.length ≤ n * d
  | 0, L, h, _ => by
    cases L with
    | nil => simp
    | cons e L => have := h e List.mem_cons_self; omega
  | n + 1, L, h, hd => by
    rw [split_len (fun e => decide (e.1 = ((n : Nat) : Int))) L]
    have h1 := hd ((n : Nat) : Int)
    have h2 := fst_len n (L.filter fun e => !decide (e.1 = ((n : Nat) : Int))) (fun e he => by
      obtain ⟨a, b⟩ := List.mem_filter.mp he
      have := h e a
      simp at b
      omega) fun s => by
        have : ((L.filter fun e => !decide (e.1 = ((n : Nat) : Int))).filter fun e => decide (e.1 = s)).length ≤ (L.filter fun e => decide (e.1 = s)).length := by
          rw [List.filter_filter]
          have e : (L.filter fun e => decide (e.1 = s) && !decide (e.1 = ((n : Nat) : Int))) = ((L.filter fun e => decide (e.1 = s)).filter fun e => !decide (e.1 = ((n : Nat) : Int))) := by
            rw [List.filter_filter]
            congr 1
            funext e
            exact Bool.and_comm _ _
          rw [e]
          exact List.length_filter_le _ _
        exact Nat.le_trans this (hd s)
    rw [Nat.add_mul]; omega
theorem good_len {n : Nat} {L : List (Int × Int)} (g : Good n 4 L) : L.length ≤ n * 4 :=
  fst_len n L (fun e he => by have := g.rng e he; omega) fun s => by
    refine Nat.le_trans ?_ (g.deg s)
    have e : (L.filter fun e => decide (e.1 = s)) = (L.filter (inc s)).filter fun e => decide (e.1 = s) := by
      rw [List.filter_filter]
      congr 1
      funext e
      unfold inc
      by_cases h : e.1 = s <;> simp [h]
    rw [e]
    exact List.length_filter_le _ _
theorem good_tail {n : Nat} {e : Int × Int} {L : List (Int × Int)} (g : Good n 4 (e :: L)) : Good n 4 L :=
  ⟨fun x hx => g.rng x (List.mem_cons_of_mem _ hx), (List.nodup_cons.mp g.nd).2, fun s => by
    have := g.deg s
    rw [List.filter_cons] at this
    split at this
    · simp only [List.length_cons] at this; omega
    · exact this⟩
theorem net_nl {H H' : Hp} {C n : Addr} {ms : List Int} {R : List (List Int)} {L : List (Int × Int)} (h : NetAt C H n ms R L) (k : ∀ a o, H a = some o → (∀ xs, o ≠ .lst xs) → (∀ ps, o ≠ .tbl ps) → H' a = some o) : NetAt C H' n ms R L := by
  obtain ⟨dx, pm, pn, pl, qs, ps, h1, h2, h3, h4, h5, h6⟩ := h.ob
  have tp : ∀ {a xs}, H a = some (.tup xs) → H' a = some (.tup xs) := fun h => k _ _ h (fun _ e => nomatch e) (fun _ e => nomatch e)
  have tr : ∀ {a xs}, Tup H a xs → Tup H' a xs := fun h => by
    rcases h with h | ⟨o, h⟩
    · exact .inl (tp h)
    · exact .inr ⟨o, k _ _ h (fun xs e => nomatch e) (fun ps e => nomatch e)⟩
  exact ⟨dx, pm, pn, pl, qs, ps, k _ _ h1 (fun xs e => nomatch e) (fun ps e => nomatch e), tr h2, tp h3, paired_mono h4 fun _ _ z => tr z, tp h5, paired_mono h6 fun _ _ z => tp z⟩
theorem nl_upd {H : Hp} {l : Addr} {xs ys : List V} (hl : H l = some (.lst xs)) : ∀ a o, H a = some o → (∀ xs, o ≠ .lst xs) → (∀ ps, o ≠ .tbl ps) → upd H l (.lst ys) a = some o := fun a o h n _ => by
  rw [upd_ne (fun z => by rw [z, hl] at h; exact n _ (Option.some.inj h).symm)]
  exact h
/-! ### the rows of sorted links -/
theorem nb_cons (e : Int × Int) (L : List (Int × Int)) (a : Int) : nb (e :: L) a = (if e.1 = a then [e.2] else if e.2 = a then [e.1] else []) ++ nb L a := by
  have h : nb (e :: L) a = nb [e] a ++ nb L a := nb_append [e] L a
  rw [h]
  obtain ⟨x, y⟩ := e
  rw [nb_one]
/-- ascending links tell ascending neighbours -/
theorem nb_asc : ∀ {L : List (Int × Int)}, L.Pairwise lexlt → (∀ e ∈ L, e.1 < e.2) → ∀ a : Int, (nb L a).Pairwise (· < ·)
  | [], _, _, a => .nil
  | e :: L, h, r, a => by
    obtain ⟨h1, h2⟩ := List.pairwise_cons.mp h
    have ih := nb_asc h2 (fun x hx => r x (List.mem_cons_of_mem _ hx)) a
    rw [nb_cons]
    have re := r e List.mem_cons_self
    have later : ∀ b ∈ nb L a, ∀ c, (e.1 = a ∧ c = e.2 ∨ e.2 = a ∧ c = e.1) → c < b := fun b hb c hc => by
      rcases mem_nb hb with m | m
      · have l := h1 _ m
        have q := r _ (List.mem_cons_of_mem _ m)
        unfold lexlt at l
        simp only at l q
        rcases hc with ⟨u, v⟩ | ⟨u, v⟩ <;> omega
      · have l := h1 _ m
        have q := r _ (List.mem_cons_of_mem _ m)
        unfold lexlt at l
        simp only at l q
        rcases hc with ⟨u, v⟩ | ⟨u, v⟩ <;> omega
    by_cases c1 : e.1 = a
    · rw [if_pos c1]
      exact List.pairwise_cons.mpr ⟨fun b hb => later b hb e.2 (.inl ⟨c1, rfl⟩), ih⟩
    · rw [if_neg c1]
      by_cases c2 : e.2 = a
      · rw [if_pos c2]
        exact List.pairwise_cons.mpr ⟨fun b hb => later b hb e.1 (.inr ⟨c2, rfl⟩), ih⟩
      · rw [if_neg c2]
        exact ih
theorem lt_perm_uniq {l m : List Int} (p : l.Perm m) (h : l.Pairwise (· ≤ ·)) (h' : m.Pairwise (· < ·)) : l = m :=
  p.eq_of_pairwise (fun a b _ _ h1 h2 => Int.le_antisymm h1 h2) h (h'.imp fun x => Int.le_of_lt x)
def rowsL (n : Nat) (L : List (Int × Int)) : List (List Int) := (List.range n).map fun i => nb L ((i : Nat) : Int)
theorem rowsL_get {n i : Nat} {L : List (Int × Int)} (h : i < n) : (rowsL n L)[i]? = some (nb L ((i : Nat) : Int)) := by
  unfold rowsL
  rw [List.getElem?_map, List.getElem?_range h]; rfl
theorem rowsL_len (n : Nat) (L : List (Int × Int)) : (rowsL n L).length = n := by unfold rowsL; simp
theorem norm_cases (x y : Int) : norm (x, y) = (x, y) ∨ norm (x, y) = (y, x) := by
  unfold norm
  split
  · exact .inl rfl
  · exact .inr rfl
theorem nb_norm_iff {M L : List (Int × Int)} (h : (M.map norm).Perm L) {a b : Int} (ne : a ≠ b) (rL : ∀ e ∈ L, e.1 < e.2) : b ∈ nb M a ↔ b ∈ nb L a := by
  constructor
  · intro z
    have : norm (a, b) ∈ L ∨ norm (b, a) ∈ L := by
      rcases mem_nb z with m | m
      · exact .inl (h.mem_iff.mp (List.mem_map.mpr ⟨_, m, rfl⟩))
      · exact .inr (h.mem_iff.mp (List.mem_map.mpr ⟨_, m, rfl⟩))
    refine nb_mem ne ?_
    rcases this with m | m
    · rcases norm_cases a b with e | e <;> rw [e] at m
      · exact .inl m
      · exact .inr m
    · rcases norm_cases b a with e | e <;> rw [e] at m
      · exact .inr m
      · exact .inl m
  · intro z
    refine nb_mem ne ?_
    rcases mem_nb z with m | m
    · obtain ⟨⟨x, y⟩, hm, e⟩ := List.mem_map.mp (h.mem_iff.mpr m)
      rcases norm_cases x y with q | q <;> rw [q] at e <;> cases e
      · exact .inl hm
      · exact .inr hm
    · obtain ⟨⟨x, y⟩, hm, e⟩ := List.mem_map.mp (h.mem_iff.mpr m)
      rcases norm_cases x y with q | q <;> rw [q] at e <;> cases e
      · exact .inr hm
      · exact .inl hm
theorem nb_irr {M : List (Int × Int)} (h : ∀ e ∈ M, e.1 ≠ e.2) (a : Int) : a ∉ nb M a := fun z => by
  rcases mem_nb z with m | m <;> exact h _ m rfl
theorem rows_back {n : Nat} {L M : List (Int × Int)} {R R' : List (List Int)} (g : Good n 4 L) (s : L.Pairwise lexlt) (h : (M.map norm).Perm L) (hR : runP (emptyR n) (M.map some) = some R)
    (p : Paired (fun (a b : List Int) => a.Perm b ∧ a.Pairwise (· ≤ ·)) R' R) : R' = rowsL n L := by
  have rs := runs_of g h
  obtain ⟨R0, hR0, hl, hr⟩ := runs_nb rs M.length (Nat.le_refl _)
  rw [List.take_length] at hR0 hr
  rw [hR] at hR0
  cases hR0
  have sym : ∀ i e, M[i]? = some e → e.1 ≠ e.2 ∧ e.2 ∉ nb (M.take i) e.1 ∧ e.1 ∉ nb (M.take i) e.2 := fun i e he => by
    obtain ⟨_, _, _, _, ne, h1, _⟩ := rs i e he
    refine ⟨ne, h1, fun z => h1 ?_⟩
    exact nb_mem ne ((mem_nb z).symm)
  have irrM : ∀ e ∈ M, e.1 ≠ e.2 := fun e he => by
    obtain ⟨i, hi⟩ := List.getElem?_of_mem he
    exact (sym i e hi).1
  have rL : ∀ e ∈ L, e.1 < e.2 := fun e he => (g.rng e he).2.1
  have lenR : R'.length = R.length := paired_len p
  refine List.ext_getElem? fun i => ?_
  by_cases hi : i < n
  · rw [rowsL_get hi]
    have hi' : i < R'.length := by omega
    rw [List.getElem?_eq_getElem hi']
    congr 1
    obtain ⟨row, e1, pm, srt⟩ := paired_get p (List.getElem?_eq_getElem hi')
    have er : row = nb M ((i : Nat) : Int) := by
      have q := hr ((i : Nat) : Int) (by omega) (by omega)
      unfold rowOf at q
      rw [List.getD_eq_getElem?_getD] at q
      have e1' : R[((i : Nat) : Int).toNat]? = some row := by simpa using e1
      rw [e1'] at q
      exact q
    rw [er] at pm
    have asc := nb_asc s rL ((i : Nat) : Int)
    refine lt_perm_uniq (pm.trans ?_) srt asc
    refine (List.perm_ext_iff_of_nodup (nb_nodup sym) (asc.imp fun z => Int.ne_of_lt z)).mpr fun b => ?_
    by_cases hb : ((i : Nat) : Int) = b
    · subst hb
      exact ⟨fun z => absurd z (nb_irr irrM _), fun z => absurd z (nb_irr (fun e he => Int.ne_of_lt (rL e he)) _)⟩
    · exact nb_norm_iff h hb rL
  · rw [List.getElem?_eq_none (by omega), List.getElem?_eq_none (by rw [rowsL_len]; omega)]
section
variable {K : PySem.W.Frag} {C CI s dx : Addr} {x z : V} {H : Hp} {Q : VK} {E : XK}
/-- good modes, good links: the rows told -/
theorem net_goodR {ms : List Int} {zs : List V} {L M : List (Int × Int)} (hs : H s = none) (hd : H dx = none) (hx : SqX K H x (some (ms.map V.int))) (m0 : ms ≠ []) (ml : ms.length < 1000) (mb : ∀ m ∈ ms, 0 ≤ m ∧ m < 4) (hz : SqX K H z (some zs))
    (hp : Paired (LkIs K H ms.length) zs (M.map some)) (g : Good ms.length 4 L) (srt : L.Pairwise lexlt) (pm : (M.map norm).Perm L)
    (hQ : ∀ H', Same H H' → NetAt C H' s ms (rowsL ms.length L) L → Q .non H') : spNet K C CI [.ref s, x, z] (made H C s dx) Q E := by
  have S : Same H (made H C s dx) := made_same hs hd
  obtain ⟨R0, hR0, _⟩ := runs_nb (runs_of g pm) M.length (Nat.le_refl _)
  rw [List.take_length] at hR0
  have rs := runs_of g pm
  refine ⟨s, dx, x, z, _, rfl, upd_same, sqx_same hx S, fun e => (by cases e), fun e => ?_, fun xs e h0 => ?_⟩
  · exact absurd (List.map_eq_nil_iff.mp (Option.some.inj e)) m0
  · cases e
    refine ⟨ms.map some, kin_all K _ ms, fun j o' h1 _ h3 => ?_, fun _ => ⟨by rw [List.length_map]; exact ml, ms, rfl, _, sqx_same hz S, fun e => (by cases e), fun zs' e => ?_⟩⟩
    · rw [List.getElem?_map] at h1
      obtain ⟨m, hm, rfl⟩ := Option.map_eq_some_iff.mp h1
      obtain ⟨a, b⟩ := mb m (List.mem_of_getElem? hm)
      rw [bel4_of a b] at h3; cases h3
    · cases e
      refine ⟨M.map some, paired_mono hp fun _ _ k => k.same S, fun j e R h1 h2 h3 => ?_, fun R hR h4 H' R' ex pr net => ?_⟩
      · have b : BadL ms.length (M.map some) j := ⟨e, R, h1, h2, h3⟩
        rw [b.bad] at hR0; cases hR0
      · rw [edges_back g srt pm hR pr, rows_back g srt pm hR pr] at net
        exact hQ H' (ex_same hs hd ex) net
end
theorem fk_made {K : PySem.W.Frag} {x q : Str} {st : Stmt} {f : Addr} {fd : FuncData} {c a b : Str} (F : Fun K x q st f fd)
    (h : ∀ (kV doc pm : Value) (an : Option Addr) (cdv ct : Value) (t u v : Value), bindArgs (PySem.W.fnOf x q (defArgs st) (defBody st) (defScope st) .none kV doc pm an cdv ct) ⟨[t], [(b, v), (a, u)]⟩ = pure [(c, t), (a, u), (b, v)]) :
    KBn K fd [c, a, b] 1 [b, a] (fun us ws => us ++ ws.reverse) (fun vs zs => vs ++ zs.reverse) := by
  obtain ⟨oc, od, kV, doc, pm, an, cdv, ct, osl, rfl, lk, hcd⟩ := F.ex
  refine ⟨fun s us ws _ h0 h2 => ?_, fun {vs us zs ws} r1 r2 => ?_⟩
  · match us, ws, h0, h2 with
    | [t], [v, u], _, _ => exact .of_eq (h kV doc pm an cdv ct t u v)
  · refine r1.append ?_
    clear r1
    induction r2 with
    | nil => exact .nil
    | cons q _ ih =>
      rw [List.reverse_cons, List.reverse_cons]
      exact ih.append (.cons q .nil)
theorem kb_Network {K : PySem.W.Frag} {mg : Str → Option Value} (T : TX K mg) : KBn K T.d_Network_init ["self", "modes", "links"] 1 ["links", "modes"] (fun us ws => us ++ ws.reverse) (fun vs zs => vs ++ zs.reverse) :=
  fk_made T.F_Network_init fun _ _ _ _ _ _ _ _ _ => rfl
theorem rd_make {C : Addr} {sp : Sp} {dvs : List V} {E : XK} {t : TA} {σ : L2.St} {H : Hp} {Q : VK} (h : t σ H fun vs H1 => ∀ x dx, H1 x = none → H1 dx = none → dx ≠ x → sp (.ref x :: (vs ++ dvs)) (made H1 C x dx) (fun v H2 => v = .non ∧ Q (.ref x) H2) E) : tMake C sp dvs E t σ H Q := h
theorem rd_makeK {C : Addr} {n m : Nat} {sp : Sp} {gV : List V → List V → List V} {E : XK} {t tk : TA} {σ : L2.St} {H : Hp} {Q : VK} (h : t σ H fun vs H1 => tk σ H1 fun zs H2 => vs.length = n ∧ zs.length = m ∧ ∀ x dx, H2 x = none → H2 dx = none → dx ≠ x →
    sp (gV (.ref x :: vs) zs) (made H2 C x dx) (fun v H3 => v = .non ∧ Q (.ref x) H3) E) : tMakeK C n m sp gV E t tk σ H Q := h
end K65

namespace K65
open PySem PySem.Spec PyProof.Rows L2 KX
local macro_rules | `(tactic| walk_at "rd1") => `(tactic| first
  | with_reducible refine rd_seq ?_
  | with_reducible refine rd_for ?_
  | with_reducible refine rd_lc ?_
  | with_reducible refine rd_asg ?_
  | ((with_reducible refine' rd_var ?rdv ?_); (case rdv => exact rfl))
  | with_reducible refine rd_c ?_
  | with_reducible refine rd_op ?_
  | with_reducible refine rd_un ?_
  | with_reducible refine rd_cons ?_
  | with_reducible refine rd_nil ?_
  | with_reducible refine rd_call ?_
  | with_reducible refine rd_cb ?_
  | with_reducible refine rd_tB ?_
  | with_reducible refine rd_test ?_
  | with_reducible refine rd_bl ?_
  | with_reducible refine rd_rI0 ?_
  | with_reducible refine rd_eqI ?_
  | with_reducible refine rd_neI ?_
  | with_reducible refine rd_rU ?_
  | with_reducible refine rd_name ?_
  | with_reducible refine rd_ifs ?_
  | with_reducible refine rd_and ?_
  | with_reducible refine rd_or ?_
  | with_reducible refine rd_not ?_
  | with_reducible refine rd_yes ?_
  | with_reducible refine rd_andV ?_
  | with_reducible refine rd_orV ?_
  | with_reducible refine rd_notV ?_
  | with_reducible refine rd_if ?_
  | with_reducible refine rd_isN ?_
  | with_reducible refine rd_iT ?_
  | with_reducible refine rd_iF ?_
  | with_reducible refine rd_ret ?_
  | with_reducible refine rd_retN ?_
  | with_reducible refine rd_drop ?_
  | with_reducible refine rd_next ?_
  | with_reducible refine rd_cont ?_
  | with_reducible refine rd_brk ?_
  | with_reducible refine rd_nx ?_
  | with_reducible refine rd_rt ?_
  | with_reducible refine rd_ct ?_
  | with_reducible refine rd_bk ?_
  | with_reducible refine rd_par ?_
  | with_reducible refine rd_par3 ?_
  | with_reducible refine rd_par2 ?_
  | with_reducible refine rd_par33 ?_
  | with_reducible refine rd_gcons ?_
  | with_reducible refine rd_gnil ?_
  | with_reducible refine rd_sub ?_
  | with_reducible refine rd_tup ?_
  | with_reducible refine rd_lst ?_
  | ((with_reducible refine rd_tupT ?hl ?_); (case hl => exact Nat.le_of_ble_eq_true rfl))
  | ((with_reducible refine rd_lstT ?hl ?_); (case hl => exact Nat.le_of_ble_eq_true rfl))
  | with_reducible refine rd_bm ?_
  | with_reducible refine rd_bm0 ?_
  | with_reducible refine rd_sl ?_
  | with_reducible refine rd_noP ?_
  | with_reducible refine rd_part ?_
  | with_reducible refine rd_int ?_
  | with_reducible refine rd_int1 ?_
  | with_reducible refine rd_fld ?_
  | with_reducible refine rd_then ?_
  | with_reducible refine rd_raise ?_
  | with_reducible refine rd_one ?_
  | with_reducible refine rd_sfld ?_
  | with_reducible refine rd_ilist ?_
  | with_reducible refine rd_itup ?_
  | with_reducible refine rd_rng1 ?_
  | with_reducible refine rd_enum ?_
  | with_reducible refine rd_enumT ?_)
local macro_rules | `(tactic| walk_at "rd") => `(tactic| repeat (walk_at "rd1"))
/-! ### what sites see -/
def sortI (l : List Int) : List Int := l.mergeSort fun a b => decide (a ≤ b)
theorem sortI_perm (l : List Int) : (sortI l).Perm l := List.mergeSort_perm _ _
theorem sortI_srt (l : List Int) : (sortI l).Pairwise (· ≤ ·) := by
  have h := List.pairwise_mergeSort (le := fun a b : Int => decide (a ≤ b)) (fun a b c h1 h2 => by simp at *; omega) (fun a b => by simp; omega) l
  exact h.imp fun z => by simpa using z
theorem srt_uniq {l l' : List Int} (p : l.Perm l') (h : l.Pairwise (· ≤ ·)) (h' : l'.Pairwise (· ≤ ·)) : l = l' :=
  p.eq_of_pairwise (fun a b _ _ h1 h2 => Int.le_antisymm h1 h2) h h'
theorem sortI_of {l m : List Int} (p : m.Perm l) (h : m.Pairwise (· ≤ ·)) : m = sortI l := srt_uniq (p.trans (sortI_perm l).symm) h (sortI_srt l)
theorem sortI_congr {l m : List Int} (p : l.Perm m) : sortI l = sortI m := sortI_of ((sortI_perm l).trans p) (sortI_srt l)
def modeAt (ms : List Int) (i : Int) : Int := ms.getD i.toNat 0
theorem modeAt_get {ms : List Int} {i : Int} (h0 : 0 ≤ i) (h1 : i < ms.length) : atI (ms.map V.int) i = some (.int (modeAt ms i)) := by
  obtain ⟨n, rfl⟩ := Int.eq_ofNat_of_zero_le h0
  have hn : n < ms.length := by omega
  refine atI_nat ?_
  unfold modeAt
  rw [List.getElem?_map, List.getElem?_eq_getElem hn, List.getD_eq_getElem?_getD]
  have : ((n : Nat) : Int).toNat = n := by omega
  rw [this, List.getElem?_eq_getElem hn]; rfl
theorem modeAt_mem {ms : List Int} {i : Int} (h0 : 0 ≤ i) (h1 : i < ms.length) : modeAt ms i ∈ ms := by
  unfold modeAt
  rw [List.getD_eq_getElem?_getD, List.getElem?_eq_getElem (by omega)]
  exact List.getElem_mem (by omega)
def viewOf (ms : List Int) (L : List (Int × Int)) (i : Int) : Int × List Int := (modeAt ms i, sortI ((nb L i).map (modeAt ms)))
def ViewAt (H : Hp) (v : Addr) (w : Int × List Int) : Prop := ∃ r, H v = some (.tup [.int w.1, .ref r]) ∧ H r = some (.tup (w.2.map V.int))
theorem ViewAt.same {H H' : Hp} {v : Addr} {w : Int × List Int} (h : ViewAt H v w) (s : Same H H') : ViewAt H' v w := by
  obtain ⟨r, h1, h2⟩ := h
  exact ⟨r, s _ _ h1, s _ _ h2⟩
def viewsOf (ms : List Int) (L : List (Int × Int)) : List (Int × List Int) := (List.range ms.length).map fun i => viewOf ms L ((i : Nat) : Int)
theorem nb_rng {n d : Nat} {L : List (Int × Int)} (g : Good n d L) {a b : Int} (h : b ∈ nb L a) : 0 ≤ b ∧ b < n := by
  rcases mem_nb h with m | m <;> (have := g.rng _ m; simp only at this; omega)
theorem nb_deg {n d : Nat} {L : List (Int × Int)} (g : Good n d L) (a : Int) : (nb L a).length ≤ d := by rw [nb_len]; exact g.deg a
/-- the row of a site -/
theorem NetAt.row {C : Addr} {H : Hp} {p : Addr} {ms : List Int} {L : List (Int × Int)} (h : NetAt C H p ms (rowsL ms.length L) L) {i : Int} (h0 : 0 ≤ i) (h1 : i < ms.length) :
    ∃ (dx pm pn pl : Addr) (qs : List Addr) (q : Addr), H p = some (.ins C dx (putF "links" (.ref pl) (putF "_near" (.ref pn) (putF "modes" (.ref pm) [])))) ∧ Tup H pm (ms.map V.int) ∧ Tup H pn (qs.map V.ref) ∧ atI (qs.map V.ref) i = some (.ref q) ∧ RowT H q (nb L i) := by
  obtain ⟨dx, pm, pn, pl, qs, ps, hp, hm, hn, hqs, _, _⟩ := h.ob
  obtain ⟨n, rfl⟩ := Int.eq_ofNat_of_zero_le h0
  have hn' : n < ms.length := by omega
  have lq : qs.length = ms.length := by rw [paired_len hqs, rowsL_len]
  have hq : qs[n]? = some qs[n] := List.getElem?_eq_getElem (by omega)
  obtain ⟨row, e, hrow⟩ := paired_get hqs hq
  rw [rowsL_get hn'] at e
  cases e
  exact ⟨dx, pm, pn, pl, qs, qs[n], hp, hm, Tup.of hn, atI_nat (by rw [List.getElem?_map, hq]; rfl), hrow⟩
theorem look_none {a b c : V} {m : Str} (h1 : ¬ m = "links") (h2 : ¬ m = "_near") (h3 : ¬ m = "modes") : (putF "links" a (putF "_near" b (putF "modes" c []))).lookup m = none := by
  rw [lookup_putF, if_neg h1, lookup_putF, if_neg h2, lookup_putF, if_neg h3]
  rfl
theorem rd_meth {C : Addr} {m : Str} {sp : L2.Sp} {dvs : List V} {E : XK} {ta : TE} {t : TA} {σ : L2.St} {H : Hp} {Q : VK} (h : ta σ H fun x H1 => ∃ a dx fs, x = .ref a ∧ H1 a = some (.ins C dx fs) ∧ fs.lookup m = none ∧ t σ H1 fun vs H2 => sp (x :: (vs ++ dvs)) H2 Q E) : tMeth C m sp dvs E ta t σ H Q := h
theorem rd_netm {C : Addr} {m : Str} {Z : Prop} {H : Hp} {p : Addr} {ms : List Int} {R : List (List Int)} {L : List (Int × Int)} (hn : NetAt C H p ms R L) (h1 : ¬ m = "links") (h2 : ¬ m = "_near") (h3 : ¬ m = "modes")
    (h : Z) : ∃ a dx fs, V.ref p = .ref a ∧ H a = some (.ins C dx fs) ∧ fs.lookup m = none ∧ Z := by
  obtain ⟨dx, pm, pn, pl, qs, ps, hp, _⟩ := hn.ob
  exact ⟨p, dx, _, rfl, hp, look_none h1 h2 h3, h⟩
def spNear (K : PySem.W.Frag) (C CQ : Addr) : L2.Sp := fun vs H Q E => ∃ (p : Addr) (x : V) (ms : List Int) (L : List (Int × Int)) (o : Option Int), vs = [.ref p, x] ∧ NetAt C H p ms (rowsL ms.length L) L ∧ Kin K H x o ∧
  (belB o ms.length = false → ErrAt CQ E H 0) ∧ (belB o ms.length = true → ∃ i, x = .int i ∧ ∀ q, RowT H q (nb L i) → Q (.ref q) H)
def spView (K : PySem.W.Frag) (C CQ : Addr) : L2.Sp := fun vs H Q E => ∃ (p : Addr) (x : V) (ms : List Int) (L : List (Int × Int)) (o : Option Int), vs = [.ref p, x] ∧ NetAt C H p ms (rowsL ms.length L) L ∧ Good ms.length 4 L ∧ (∀ m ∈ ms, 0 ≤ m ∧ m < 4) ∧ Kin K H x o ∧
  (belB o ms.length = false → ErrAt CQ E H 0) ∧ (belB o ms.length = true → ∃ i, x = .int i ∧ ∀ H' v, Same H H' → ViewAt H' v (viewOf ms L i) → Q (.ref v) H')
def spSViews (K : PySem.W.Frag) (C : Addr) : L2.Sp := fun vs H Q E => ∃ (p : Addr) (ms : List Int) (L : List (Int × Int)), vs = [.ref p] ∧ NetAt C H p ms (rowsL ms.length L) L ∧ Good ms.length 4 L ∧ (∀ m ∈ ms, 0 ≤ m ∧ m < 4) ∧ ms.length < 1000 ∧
  ∀ H' t vs, Same H H' → H' t = some (.tup (vs.map V.ref)) → Paired (ViewAt H') vs (viewsOf ms L) → Q (.ref t) H'
theorem belB_iff {i : Int} {n : Nat} : belB (some i) n = true ↔ 0 ≤ i ∧ i < n := by
  show (decide (0 ≤ i) && decide (i < (n : Int))) = true ↔ _
  simp
theorem kin_bel {K : PySem.W.Frag} {H : Hp} {x : V} {o : Option Int} {n : Nat} (k : Kin K H x o) (h : belB o n = true) : ∃ i, x = .int i ∧ 0 ≤ i ∧ i < n := by
  cases k with
  | int i => exact ⟨i, rfl, belB_iff.mp h⟩
  | oth t h1 h2 h3 => cases h
section
variable {P : Program} {w : World} {K : PySem.W.Frag} {mg : Str → Option Value} {base : Heap} (T : TX K mg)
theorem G_Network_neighbours : FnOk P w K mg base (L2.CX P w) 5 T.f_Network_neighbours T.d_Network_neighbours ["self", "at"] (spNear K T.c_Network T.c_InvalidQuestion) := by
  refine T.F_Network_neighbours.okX sc_Network_neighbours (fun vs H Q E h => ?_) fun cdv A outer s H vs Q E hr h => ⟨_, (pss_cons (ps_if (pt_not (pt_val (pe_call (G_is_below T) (hr.mono (by decide)) (by rfl) T.m_is_below T.F_is_below.kp T.b_is_below .nil pass0 (by exact (pa_cons (pv 1) (pa_cons (pe_callB (cr_lenK (K := K)) (by rfl) T.n_len (by decide +kernel) (by exact (pa_cons (pe_fldK (K := K) (pv 0)) pa_nil))) pa_nil)))))) (pss_one (ps_raiseErrZ rfl T.E_InvalidQuestion hr (takes_of rfl rfl rfl rfl) (by exact (pa_cons pe_int pa_nil)))) pss_nil) (pss_one (ps_ret (pe_ix (ix_tupK (K := K)) (pe_fldK (K := K) (pv 0)) (pv 1) (fun _ _ => rfl))))), ?_⟩
  · obtain ⟨p, x, ms, L, o, rfl, _⟩ := h
    rfl
  · obtain ⟨p, x, ms, L, o, rfl, hN, k, hE, hQ⟩ := h
    obtain ⟨dx, pm, pn, pl, qs, ps, hp, hm, _⟩ := hN.ob
    walk_at "rd"
    refine ⟨p, _, dx, _, _, rfl, hp, T.C_Network, T.A_Network_modes, look_modes, ?_⟩
    walk_at "rd"
    refine rd_lenTup hm ?_
    rw [List.length_map]
    walk_at "rd"
    refine ⟨_, _, _, rfl, k, ?_⟩
    walk_at "rd"
    cases hb : belB o ms.length with
    | false =>
      refine rd_iT ?_
      walk_at "rd"
      exact fun d hd => hE hb H d (Same.refl H) hd
    | true =>
      refine rd_iF ?_
      walk_at "rd"
      obtain ⟨i, rfl, hQ2⟩ := hQ hb
      obtain ⟨i', e, i0, i1⟩ := kin_bel k hb
      cases e
      obtain ⟨dx, pm, pn, pl, qs, q, hp, hm, hn, hq, hrow⟩ := hN.row i0 i1
      refine ⟨p, _, dx, _, _, rfl, hp, T.C_Network, T.A_Network__near, look_near, ?_⟩
      walk_at "rd"
      refine rd_ixT hn hq ?_
      exact hQ2 q hrow
theorem G_Network_view : FnOk P w K mg base (L2.CX P w) 7 T.f_Network_view T.d_Network_view ["self", "at"] (spView K T.c_Network T.c_InvalidQuestion) := by
  refine T.F_Network_view.okX sc_Network_view (fun vs H Q E h => ?_) fun cdv A outer s H vs Q E hr h => ⟨_, (pss_cons (ps_if (pt_not (pt_val (pe_call (G_is_below T) (hr.mono (by decide)) (by rfl) T.m_is_below T.F_is_below.kp T.b_is_below .nil pass0 (by exact (pa_cons (pv 1) (pa_cons (pe_callB (cr_lenK (K := K)) (by rfl) T.n_len (by decide +kernel) (by exact (pa_cons (pe_fldK (K := K) (pv 0)) pa_nil))) pa_nil)))))) (pss_one (ps_raiseErrZ rfl T.E_InvalidQuestion hr (takes_of rfl rfl rfl rfl) (by exact (pa_cons pe_int pa_nil)))) pss_nil) (pss_one (ps_ret (pe_call (G_made_view T) (hr.mono (by decide)) (by rfl) T.m_made_view T.F_made_view.kp T.b_made_view .nil (passes_call (takes_of rfl rfl rfl rfl) fun _ _ _ _ z => z) (by exact (pa_cons (pe_ix (ix_tupK (K := K)) (pe_fldK (K := K) (pv 0)) (pv 1) (fun _ _ => rfl)) (pa_cons (by exact (pe_lc (own := [("other", 2)]) (by rfl) sc_Network_view.nd (pi_tupK (K := K) (pe_ix (ix_tupK (K := K)) (pe_fldK (K := K) (pv 0)) (pv 1) (fun _ _ => rfl))) (blkOk_by (own := [("other", 2)]) (N := N_Network_view) (sc := defScope s_Network_view) (by decide +kernel)) (fun _ _ _ _ _ => (pg_name (i := 2) sc_Network_view.nd rfl (.inl rfl))) (fun _ _ _ _ _ => pts_nil) (fun _ _ _ _ _ => (pe_ix (ix_tupK (K := K)) (pe_fldK (K := K) (pv 0)) (pv 2) (fun _ _ => rfl))) )) pa_nil))))))), ?_⟩
  · obtain ⟨p, x, ms, L, o, rfl, _⟩ := h
    rfl
  · obtain ⟨p, x, ms, L, o, rfl, hN, g, mb, k, hE, hQ⟩ := h
    obtain ⟨dx, pm, pn, pl, qs, ps, hp, hm, _⟩ := hN.ob
    walk_at "rd"
    refine ⟨p, _, dx, _, _, rfl, hp, T.C_Network, T.A_Network_modes, look_modes, ?_⟩
    walk_at "rd"
    refine rd_lenTup hm ?_
    rw [List.length_map]
    walk_at "rd"
    refine ⟨_, _, _, rfl, k, ?_⟩
    walk_at "rd"
    cases hb : belB o ms.length with
    | false =>
      refine rd_iT ?_
      walk_at "rd"
      exact fun d hd => hE hb H d (Same.refl H) hd
    | true =>
      refine rd_iF ?_
      walk_at "rd"
      obtain ⟨i, rfl, hQ2⟩ := hQ hb
      obtain ⟨i', e, i0, i1⟩ := kin_bel k hb
      cases e
      obtain ⟨dx, pm, pn, pl, qs, q, hp, hm, hn, hq, hrow⟩ := hN.row i0 i1
      refine ⟨p, _, dx, _, _, rfl, hp, T.C_Network, T.A_Network_modes, look_modes, ?_⟩
      walk_at "rd"
      refine rd_ixT hm (modeAt_get i0 i1) ?_
      walk_at "rd"
      refine ⟨p, _, dx, _, _, rfl, hp, T.C_Network, T.A_Network__near, look_near, ?_⟩
      walk_at "rd"
      refine rd_ixT hn hq ?_
      refine ⟨q, rfl, ⟨_, hrow.sq⟩, fun D hD => ?_⟩
      have dg := nb_deg g i
      refine lcv_tup (xs := (nb L i).map V.int) (((nb L i).map (modeAt ms)).map V.int) hrow (by simp) (by simp; omega) hD (fun j y z H1 hy hz S1 R hR => ?_) (fun H1 S1 hD1 => ?_)
      · rw [List.getElem?_map] at hy
        obtain ⟨b, hb', rfl⟩ := Option.map_eq_some_iff.mp hy
        rw [List.getElem?_map, List.getElem?_map, hb'] at hz
        cases hz
        obtain ⟨b0, b1⟩ := nb_rng g (List.mem_of_getElem? hb')
        walk_at "rd"
        refine ⟨rfl, ?_⟩
        walk_at "rd"
        refine ⟨p, _, dx, _, _, rfl, S1 _ _ hp, T.C_Network, T.A_Network_modes, look_modes, ?_⟩
        walk_at "rd"
        exact rd_ixT (hm.same S1) (modeAt_get b0 b1) (hR H1 (Same.refl _))
      · walk_at "rd"
        have all : (((nb L i).map (modeAt ms)).map some).all bel4 = true := by
          refine List.all_eq_true.mpr fun o ho => ?_
          obtain ⟨m, hm', rfl⟩ := List.mem_map.mp ho
          obtain ⟨b, hb', rfl⟩ := List.mem_map.mp hm'
          obtain ⟨b0, b1⟩ := nb_rng g hb'
          obtain ⟨c0, c1⟩ := mb _ (modeAt_mem b0 b1)
          exact bel4_of c0 c1
        have nbi : NbIs K H1 (.ref D) true := by
          have z := NbIs.all (K := K) (SqX.lst hD1) (kin_all K H1 ((nb L i).map (modeAt ms))) (by simp; omega)
          rwa [all] at z
        obtain ⟨c0, c1⟩ := mb _ (modeAt_mem i0 i1)
        have b4 : (bel4 (some (modeAt ms i)) && true) = true := by rw [bel4_of c0 c1]; rfl
        refine ⟨_, _, some (modeAt ms i), true, rfl, .int _, nbi, fun z => (by rw [b4] at z; cases z), fun _ => ⟨_, (nb L i).map (modeAt ms), rfl, .lst hD1, by simp; omega, fun ns' r v H2 S2 pm srt hr2 hv2 => ?_⟩⟩
        refine hQ2 H2 v (S1.trans S2) ⟨r, hv2, ?_⟩
        rw [hr2, sortI_of pm srt]
        rfl
theorem G_Network_site_views : FnOk P w K mg base (L2.CX P w) 8 T.f_Network_site_views T.d_Network_site_views ["self"] (spSViews K T.c_Network) := by
  refine T.F_Network_site_views.okX sc_Network_site_views (fun vs H Q E h => ?_) fun cdv A outer s H vs Q E hr h => ⟨_, (pss_one (ps_ret (pe_tupleK (K := K) (by rfl) T.n_tuple (by exact (pe_lc (own := [("at", 1)]) (by rfl) sc_Network_site_views.nd (pi_range1 (by rfl) T.n_range (by exact (pa_cons (pe_callB (cr_lenK (K := K)) (by rfl) T.n_len (by decide +kernel) (by exact (pa_cons (pe_fldK (K := K) (pv 0)) pa_nil))) pa_nil))) (blkOk_by (own := [("at", 1)]) (N := N_Network_site_views) (sc := defScope s_Network_site_views) (by decide +kernel)) (fun _ _ _ _ _ => (pg_name (i := 1) sc_Network_site_views.nd rfl (.inl rfl))) (fun _ _ _ _ _ => pts_nil) (fun _ _ _ _ _ => (pe_meth (pv 0) T.C_Network T.H_Network_view (G_Network_view T) (hr.mono (by decide)) T.b_Network_view .nil passL (by exact (pa_cons (pv 1) pa_nil)))) ))))), ?_⟩
  · obtain ⟨p, ms, L, rfl, _⟩ := h
    rfl
  · obtain ⟨p, ms, L, rfl, hN, g, mb, ml, hQ⟩ := h
    obtain ⟨dx, pm, pn, pl, qs, ps, hp, hm, _⟩ := hN.ob
    walk_at "rd"
    refine ⟨p, _, dx, _, _, rfl, hp, T.C_Network, T.A_Network_modes, look_modes, ?_⟩
    walk_at "rd"
    refine rd_lenTup hm ?_
    rw [List.length_map]
    walk_at "rd"
    refine ⟨by omega, by omega, fun D hD => ?_⟩
    refine lc_range (lo := 0) (n := ms.length) (fun i H' => Same H H' ∧ ∃ vs : List Addr, H' D = some (.lst (vs.map V.ref)) ∧ Paired (ViewAt H') vs ((viewsOf ms L).take i)) ⟨Same.fresh hD, [], upd_same, .nil⟩ (fun i H' hi pv => ?_) (fun H' pv => ?_)
    · obtain ⟨S, vs, hvs, hpv⟩ := pv
      walk_at "rd"
      refine ⟨rfl, ?_⟩
      walk_at "rd"
      refine rd_meth ?_
      walk_at "rd"
      have N' := net_nl hN fun a o h _ _ => S a o h
      refine rd_netm (m := "view") N' (by decide +kernel) (by decide +kernel) (by decide +kernel) ?_
      walk_at "rd"
      have z0 : (0 : Int) + (i : Nat) = (i : Nat) := by omega
      have bt : belB (some ((0 : Int) + (i : Nat))) ms.length = true := belB_iff.mpr (by omega)
      refine ⟨p, _, ms, L, _, rfl, N', g, mb, .int _, fun z => (by rw [bt] at z; cases z), fun _ => ⟨_, rfl, fun H2 v S2 hv => ?_⟩⟩
      rw [z0] at hv
      have lv := paired_len hpv
      rw [List.length_take] at lv
      refine ⟨_, S2 _ _ hvs, ?_, same_put (S.trans S2) hD, vs ++ [v], ?_, ?_⟩
      · rw [List.length_map]
        exact Nat.lt_of_lt_of_le (by omega : vs.length < 1000) (by decide)
      · rw [upd_same]; simp
      · have e : (viewsOf ms L)[i]? = some (viewOf ms L ((i : Nat) : Int)) := by
          unfold viewsOf
          rw [List.getElem?_map, List.getElem?_range hi]; rfl
        rw [List.take_succ, e]
        have hl2 := S2 _ _ hvs
        have up : ∀ {a : Addr} {w : Int × List Int}, ViewAt H2 a w → ViewAt (upd H2 D (.lst (vs.map V.ref ++ [V.ref v]))) a w := fun ⟨r, h1, h2⟩ =>
          ⟨r, by rw [upd_ne (fun z => by rw [z, hl2] at h1; cases h1)]; exact h1, by rw [upd_ne (fun z => by rw [z, hl2] at h2; cases h2)]; exact h2⟩
        have gen : ∀ {l : List Addr} {m : List (Int × List Int)}, Paired (ViewAt H') l m → Paired (ViewAt (upd H2 D (.lst (vs.map V.ref ++ [V.ref v])))) (l ++ [v]) (m ++ [viewOf ms L ((i : Nat) : Int)]) := fun p => by
          induction p with
          | nil => exact .cons (up hv) .nil
          | cons a _ ih => exact .cons (up (a.same S2)) ih
        exact gen hpv
    · obtain ⟨S, vs, hvs, hpv⟩ := pv
      have e : (viewsOf ms L).take ms.length = viewsOf ms L := List.take_of_length_le (by unfold viewsOf; simp)
      rw [e] at hpv
      walk_at "rd"
      refine rd_tupL hvs ?_
      intro t H2 t0 S2 ht
      exact hQ H2 t vs (S.trans S2) ht (paired_mono hpv fun _ _ z => z.same S2)
end
end K65

namespace K65
open PySem PySem.Spec PyProof.Rows L2 KX
local macro_rules | `(tactic| walk_at "rd1") => `(tactic| first
  | with_reducible refine rd_seq ?_
  | with_reducible refine rd_for ?_
  | with_reducible refine rd_lc ?_
  | with_reducible refine rd_asg ?_
  | ((with_reducible refine' rd_var ?rdv ?_); (case rdv => exact rfl))
  | with_reducible refine rd_c ?_
  | with_reducible refine rd_op ?_
  | with_reducible refine rd_un ?_
  | with_reducible refine rd_cons ?_
  | with_reducible refine rd_nil ?_
  | with_reducible refine rd_call ?_
  | with_reducible refine rd_cb ?_
  | with_reducible refine rd_tB ?_
  | with_reducible refine rd_test ?_
  | with_reducible refine rd_bl ?_
  | with_reducible refine rd_rI0 ?_
  | with_reducible refine rd_eqI ?_
  | with_reducible refine rd_neI ?_
  | with_reducible refine rd_rU ?_
  | with_reducible refine rd_name ?_
  | with_reducible refine rd_ifs ?_
  | with_reducible refine rd_and ?_
  | with_reducible refine rd_or ?_
  | with_reducible refine rd_not ?_
  | with_reducible refine rd_yes ?_
  | with_reducible refine rd_andV ?_
  | with_reducible refine rd_orV ?_
  | with_reducible refine rd_notV ?_
  | with_reducible refine rd_if ?_
  | with_reducible refine rd_isN ?_
  | with_reducible refine rd_iT ?_
  | with_reducible refine rd_iF ?_
  | with_reducible refine rd_ret ?_
  | with_reducible refine rd_retN ?_
  | with_reducible refine rd_drop ?_
  | with_reducible refine rd_next ?_
  | with_reducible refine rd_cont ?_
  | with_reducible refine rd_brk ?_
  | with_reducible refine rd_nx ?_
  | with_reducible refine rd_rt ?_
  | with_reducible refine rd_ct ?_
  | with_reducible refine rd_bk ?_
  | with_reducible refine rd_par ?_
  | with_reducible refine rd_par3 ?_
  | with_reducible refine rd_par2 ?_
  | with_reducible refine rd_par33 ?_
  | with_reducible refine rd_gcons ?_
  | with_reducible refine rd_gnil ?_
  | with_reducible refine rd_sub ?_
  | with_reducible refine rd_tup ?_
  | with_reducible refine rd_lst ?_
  | ((with_reducible refine rd_tupT ?hl ?_); (case hl => exact Nat.le_of_ble_eq_true rfl))
  | ((with_reducible refine rd_lstT ?hl ?_); (case hl => exact Nat.le_of_ble_eq_true rfl))
  | with_reducible refine rd_bm ?_
  | with_reducible refine rd_bm0 ?_
  | with_reducible refine rd_sl ?_
  | with_reducible refine rd_noP ?_
  | with_reducible refine rd_part ?_
  | with_reducible refine rd_int ?_
  | with_reducible refine rd_int1 ?_
  | with_reducible refine rd_fld ?_
  | with_reducible refine rd_then ?_
  | with_reducible refine rd_raise ?_
  | with_reducible refine rd_one ?_
  | with_reducible refine rd_sfld ?_
  | with_reducible refine rd_ilist ?_
  | with_reducible refine rd_itup ?_
  | with_reducible refine rd_rng1 ?_
  | with_reducible refine rd_enum ?_
  | with_reducible refine rd_enumT ?_)
local macro_rules | `(tactic| walk_at "rd") => `(tactic| repeat (walk_at "rd1"))
/-- who is linked to a: those told second, then those told first -/
def nbF (L : List (Int × Int)) (a : Int) : List Int := (L.filterMap fun e => if e.1 = a then some e.2 else none) ++ L.filterMap fun e => if e.2 = a then some e.1 else none
theorem nbF_perm : ∀ {L : List (Int × Int)}, (∀ e ∈ L, e.1 ≠ e.2) → ∀ a, (nbF L a).Perm (nb L a)
  | [], _, a => List.Perm.refl _
  | e :: L, h, a => by
    have ih := nbF_perm (fun x hx => h x (List.mem_cons_of_mem _ hx)) a
    have ne := h e List.mem_cons_self
    rw [nb_cons]
    unfold nbF at ih ⊢
    rw [List.filterMap_cons, List.filterMap_cons]
    by_cases c1 : e.1 = a
    · have c2 : ¬ e.2 = a := fun z => ne (by rw [c1, z])
      rw [if_pos c1, if_neg c2, if_pos c1]
      exact ih.cons e.2
    · rw [if_neg c1, if_neg c1]
      by_cases c2 : e.2 = a
      · rw [if_pos c2, if_pos c2]
        exact List.perm_middle.trans (ih.cons e.1)
      · rw [if_neg c2, if_neg c2]
        exact ih
theorem fm_map {α : Type} (f : α → Option Int) (g : Int → Int) (l : List α) : l.filterMap (fun e => (f e).map fun b => V.int (g b)) = ((l.filterMap f).map g).map V.int := by
  induction l with
  | nil => rfl
  | cons e l ih =>
    rw [List.filterMap_cons, List.filterMap_cons]
    cases f e with
    | none => exact ih
    | some b => simp [ih]
def spLViews : L2.Sp := fun vs H Q _ => ∃ (a l : Addr) (ms : List Int) (ps : List Addr) (L : List (Int × Int)), vs = [.ref a, .ref l] ∧ H a = some (.lst (ms.map V.int)) ∧ H l = some (.lst (ps.map V.ref)) ∧ Paired (PairAt H) ps L ∧ Good ms.length 4 L ∧ ms.length < 1000 ∧ L.length < 10000 ∧
  ∀ H' t vs, Same H H' → H t = none → H' t = some (.lst (vs.map V.ref)) → Paired (ViewAt H') vs (viewsOf ms L) → Q (.ref t) H'
section
variable {P : Program} {w : World} {K : PySem.W.Frag} {mg : Str → Option Value} {base : Heap} (T : TX K mg)
theorem G__law_views : FnOk P w K mg base CX0 1 T.f__law_views T.d__law_views ["modes", "links"] spLViews := by
  refine T.F__law_views.ok sc__law_views (fun vs H Q E h => ?_) fun cdv A outer s H vs Q E hr h => ⟨_, (pss_cons (ps_set (i := 2) sc__law_views.nd rfl (.inl rfl) (pe_lst pa_nil)) (pss_cons (ps_for PassesOwn.never rfl (pi_enumK (K := K) (by rfl) T.n_enumerate (by exact (pa_cons (pv 0) pa_nil))) (pg_tupK (K := K) (n := 2) (by rfl) (pgs_cons (pg_name (i := 3) sc__law_views.nd rfl (.inr rfl)) (pgs_cons (pg_name (i := 4) sc__law_views.nd rfl (.inl rfl)) pgs_nil))) (pss_cons (ps_set (i := 5) sc__law_views.nd rfl (.inl rfl) (pe_op op_cat (by exact (pe_lc (own := [("one", 6), ("other", 7)]) (by rfl) sc__law_views.nd (pi_listK (K := K) (pv 1)) (blkOk_by (own := [("one", 6), ("other", 7)]) (N := N__law_views) (sc := defScope s__law_views) (by decide +kernel)) (fun _ _ _ _ _ => (pg_tupK (K := K) (n := 2) (by rfl) (pgs_cons (pg_name (i := 6) sc__law_views.nd rfl (.inl rfl)) (pgs_cons (pg_name (i := 7) sc__law_views.nd rfl (.inl rfl)) pgs_nil)))) (fun _ _ _ _ _ => pts_one (pt_cmpR op_eq (pv 6) (pv 3) (nomark _))) (fun _ _ _ _ _ => (pe_ix (ix_listK (K := K)) (pv 0) (pv 7) (fun _ _ => rfl))) )) (by exact (pe_lc (own := [("one", 6), ("other", 7)]) (by rfl) sc__law_views.nd (pi_listK (K := K) (pv 1)) (blkOk_by (own := [("one", 6), ("other", 7)]) (N := N__law_views) (sc := defScope s__law_views) (by decide +kernel)) (fun _ _ _ _ _ => (pg_tupK (K := K) (n := 2) (by rfl) (pgs_cons (pg_name (i := 6) sc__law_views.nd rfl (.inl rfl)) (pgs_cons (pg_name (i := 7) sc__law_views.nd rfl (.inl rfl)) pgs_nil)))) (fun _ _ _ _ _ => pts_one (pt_cmpR op_eq (pv 7) (pv 3) (nomark _))) (fun _ _ _ _ _ => (pe_ix (ix_listK (K := K)) (pv 0) (pv 6) (fun _ _ => rfl))) )))) (pss_one (ps_expr (pe_bmK (K := K) PySem.F.slot_list_append PySem.F.type_list_append mt_append (pv 2) (by exact (pa_cons (pe_tup (pa_cons (pv 4) (pa_cons (pe_tupleK (K := K) (by rfl) T.n_tuple (pe_callB (cr_sortedK (K := K)) (by rfl) T.n_sorted (by decide +kernel) (by exact (pa_cons (pv 5) pa_nil)))) pa_nil))) pa_nil))))))) (pss_one (ps_ret (pv 2))))), ?_⟩
  · obtain ⟨a, l, ms, ps, L, rfl, _⟩ := h
    rfl
  · obtain ⟨a, l, ms, ps, L, rfl, ha, hl, pL, g, ml, lL, hQ⟩ := h
    walk_at "rd"
    intro f H1 f0 S1 hf
    walk_at "rd"
    have ha1 := S1 _ _ ha
    have hl1 := S1 _ _ hl
    have pL1 : Paired (PairAt H1) ps L := paired_mono pL fun _ _ z => S1 _ _ z
    have ne : ∀ e ∈ L, e.1 ≠ e.2 := fun e he => by have := g.rng e he; omega
    have ff : H f = none := f0
    refine ⟨a, _, rfl, SqL.of ha1, for_enumL (xs := ms.map V.int) (fun i σ H' => (∃ o3 o4 o5 o6 o7, σ = [some (.ref a), some (.ref l), some (.ref f), o3, o4, o5, o6, o7]) ∧ Same H H' ∧ ∃ vs : List Addr, H' f = some (.lst (vs.map V.ref)) ∧ Paired (ViewAt H') vs ((viewsOf ms L).take i))
      ⟨⟨_, _, _, _, _, rfl⟩, S1, [], hf, .nil⟩ (fun i σ H' p => SqL.of (p.2.1 _ _ ha)) (fun i y σ H' t H2 hy p ht S2 et => ?_) (fun σ H' p => ?_)⟩
    · obtain ⟨⟨o3, o4, o5, o6, o7, rfl⟩, S, vs, hvs, hpv⟩ := p
      rw [List.getElem?_map] at hy
      obtain ⟨m, hm, rfl⟩ := Option.map_eq_some_iff.mp hy
      have hi : i < ms.length := (List.getElem?_eq_some_iff.mp hm).1
      have em : modeAt ms ((i : Nat) : Int) = m := by
        unfold modeAt
        have : ((i : Nat) : Int).toNat = i := by omega
        rw [this, List.getD_eq_getElem?_getD, hm]; rfl
      refine rd_gtup (Tup.of et) rfl ?_
      have Sa := S.trans S2
      have hl2 := Sa _ _ hl
      have ha2 := Sa _ _ ha
      have hvs2 := S2 _ _ hvs
      have pL2 : Paired (PairAt H2) ps L := paired_mono pL fun _ _ z => Sa _ _ z
      have hpv2 : Paired (ViewAt H2) vs ((viewsOf ms L).take i) := paired_mono hpv fun _ _ z => z.same S2
      have lps := paired_len pL
      walk_at "rd"
      refine ⟨l, rfl, ⟨_, SqL.of hl2⟩, fun D hD => ?_⟩
      refine lcf_list (xs := ps.map V.ref) L (fun e => (if e.1 = ((i : Nat) : Int) then some e.2 else none).map fun b => V.int (modeAt ms b)) hl2 (by rw [List.length_map, lps]) (by rw [List.length_map, lps]; omega) hD (fun j x e H3 hx he S3 R N hR hN => ?_) (fun H3 S3 hD3 => ?_)
      · rw [List.getElem?_map] at hx
        obtain ⟨t', ht', rfl⟩ := Option.map_eq_some_iff.mp hx
        obtain ⟨e', he', hte⟩ := paired_get pL2 ht'
        rw [he] at he'
        cases he'
        obtain ⟨r0, r1, r2⟩ := g.rng e (List.mem_of_getElem? he)
        have hte3 : H3 t' = some (.tup [.int e.1, .int e.2]) := S3 _ _ hte
        refine rd_gtup (Tup.of hte3) rfl ?_
        walk_at "rd"
        refine ⟨rfl, ?_⟩
        walk_at "rd"
        by_cases c : e.1 = ((i : Nat) : Int)
        · refine iteT' (decide_eq_true c) ?_
          walk_at "rd"
          refine rd_ixL (S3 _ _ ha2) (modeAt_get (by omega) r2) ?_
          exact hR _ H3 (by rw [if_pos c]; rfl) (Same.refl _)
        · refine iteF' (decide_eq_false c) ?_
          exact hN H3 (by rw [if_neg c]; rfl) (Same.refl _)
      · rw [fm_map] at hD3
        walk_at "rd"
        refine ⟨l, rfl, ⟨_, SqL.of (S3 _ _ hl2)⟩, fun D2 hD2 => ?_⟩
        refine lcf_list (xs := ps.map V.ref) L (fun e => (if e.2 = ((i : Nat) : Int) then some e.1 else none).map fun b => V.int (modeAt ms b)) (S3 _ _ hl2) (by rw [List.length_map, lps]) (by rw [List.length_map, lps]; omega) hD2 (fun j x e H4 hx he S4 R N hR hN => ?_) (fun H4 S4 hD4 => ?_)
        · rw [List.getElem?_map] at hx
          obtain ⟨t', ht', rfl⟩ := Option.map_eq_some_iff.mp hx
          obtain ⟨e', he', hte⟩ := paired_get pL2 ht'
          rw [he] at he'
          cases he'
          obtain ⟨r0, r1, r2⟩ := g.rng e (List.mem_of_getElem? he)
          have hte4 : H4 t' = some (.tup [.int e.1, .int e.2]) := S4 _ _ (S3 _ _ hte)
          refine rd_gtup (Tup.of hte4) rfl ?_
          walk_at "rd"
          refine ⟨rfl, ?_⟩
          walk_at "rd"
          by_cases c : e.2 = ((i : Nat) : Int)
          · refine iteT' (decide_eq_true c) ?_
            walk_at "rd"
            refine rd_ixL (S4 _ _ (S3 _ _ ha2)) (modeAt_get r0 (by omega)) ?_
            exact hR _ H4 (by rw [if_pos c]; rfl) (Same.refl _)
          · refine iteF' (decide_eq_false c) ?_
            exact hN H4 (by rw [if_neg c]; rfl) (Same.refl _)
        · rw [fm_map] at hD4
          have dg := nb_deg g ((i : Nat) : Int)
          have pm := nbF_perm ne ((i : Nat) : Int)
          have ln := pm.length_eq
          unfold nbF at ln
          rw [List.length_append] at ln
          refine rd_cat (S4 _ _ hD3) hD4 (by simp only [List.length_map]; omega) ?_
          intro r H5 r0 S5 hr5
          have er : (L.filterMap fun e => if e.1 = ((i : Nat) : Int) then some e.2 else none).map (modeAt ms) ++ (L.filterMap fun e => if e.2 = ((i : Nat) : Int) then some e.1 else none).map (modeAt ms) = (nbF L ((i : Nat) : Int)).map (modeAt ms) := by
            unfold nbF; rw [List.map_append]
          rw [← List.map_append, er] at hr5
          have S25 := ((S3.trans S4).trans S5)
          walk_at "rd"
          refine rd_ty (S25 _ _ hvs2) ?_
          walk_at "rd"
          refine rd_sorted hr5 (by rw [List.length_map, pm.length_eq]; omega) fun ns' pn sn => ?_
          intro u H6 u0 S6 hu
          walk_at "rd"
          refine rd_tupL hu ?_
          intro u2 H7 u20 S7 hu2
          walk_at "rd"
          intro v H8 v0 S8 hv
          have S28 := ((S25.trans S6).trans S7).trans S8
          have hvs8 := S28 _ _ hvs2
          have lv := paired_len hpv
          rw [List.length_take] at lv
          walk_at "rd"
          refine rd_app hvs8 (by rw [List.length_map]; omega) ?_
          walk_at "rd"
          have en : ns' = (viewOf ms L ((i : Nat) : Int)).2 := sortI_of (pn.trans (pm.map _)) sn
          have hvw : ViewAt H8 v (viewOf ms L ((i : Nat) : Int)) := ⟨u2, by rw [hv]; show _ = some (HO.tup [V.int (modeAt ms ((i : Nat) : Int)), V.ref u2]); rw [em], by rw [← en]; exact S8 _ _ hu2⟩
          refine ⟨⟨_, _, _, _, _, rfl⟩, same_put (Sa.trans S28) ff, vs ++ [v], by rw [upd_same]; simp, ?_⟩
          have e : (viewsOf ms L)[i]? = some (viewOf ms L ((i : Nat) : Int)) := by
            unfold viewsOf
            rw [List.getElem?_map, List.getElem?_range hi]; rfl
          rw [List.take_succ, e]
          have up : ∀ {a : Addr} {w : Int × List Int}, ViewAt H8 a w → ViewAt (upd H8 f (.lst (vs.map V.ref ++ [V.ref v]))) a w := fun ⟨r, h1, h2⟩ =>
            ⟨r, by rw [upd_ne (fun z => by rw [z, hvs8] at h1; cases h1)]; exact h1, by rw [upd_ne (fun z => by rw [z, hvs8] at h2; cases h2)]; exact h2⟩
          have gen : ∀ {l : List Addr} {m : List (Int × List Int)}, Paired (ViewAt H2) l m → Paired (ViewAt (upd H8 f (.lst (vs.map V.ref ++ [V.ref v])))) (l ++ [v]) (m ++ [viewOf ms L ((i : Nat) : Int)]) := fun p => by
            induction p with
            | nil => exact .cons (up hvw) .nil
            | cons a _ ih => exact .cons (up (a.same S28)) ih
          exact gen hpv2
    · obtain ⟨⟨o3, o4, o5, o6, o7, rfl⟩, S, vs, hvs, hpv⟩ := p
      have e : (viewsOf ms L).take (ms.map V.int).length = viewsOf ms L := List.take_of_length_le (by unfold viewsOf; simp)
      rw [e] at hpv
      walk_at "rd"
      exact hQ H' f vs S ff hvs hpv
end
end K65

namespace K65
open PySem PySem.Spec PyProof.Rows L2 KX
/-! ### what stays -/
structure Kp (p q : Addr) (H H' : Hp) : Prop where
  nl : ∀ a o, H a = some o → (∀ xs, o ≠ .lst xs) → (∀ ps, o ≠ .tbl ps) → H' a = some o
  ls : ∀ a xs, a ≠ p → a ≠ q → H a = some (.lst xs) → H' a = some (.lst xs)
theorem Kp.refl {p q : Addr} {H : Hp} : Kp p q H H := ⟨fun _ _ h _ _ => h, fun _ _ _ _ h => h⟩
theorem Kp.trans {p q : Addr} {H H1 H2 : Hp} (a : Kp p q H H1) (b : Kp p q H1 H2) : Kp p q H H2 :=
  ⟨fun c o h n t => b.nl c o (a.nl c o h n t) n t, fun c xs h1 h2 h => b.ls c xs h1 h2 (a.ls c xs h1 h2 h)⟩
theorem Kp.same {p q : Addr} {H H' : Hp} (s : Same H H') : Kp p q H H' := ⟨fun a o h _ _ => s a o h, fun a xs _ _ h => s a _ h⟩
theorem Kp.fix {p q : Addr} {H H' : Hp} (d : Deal H p q) (f : Fix p q H H') : Kp p q H H' := ⟨fun a o h n _ => f.keep d h n, fun a xs h1 h2 h => f a _ h1 h2 h⟩
theorem Kp.tup {p q : Addr} {H H' : Hp} {a : Addr} {xs : List V} (k : Kp p q H H') (h : H a = some (.tup xs)) : H' a = some (.tup xs) :=
  k.nl _ _ h (fun xs e => nomatch e) (fun ps e => nomatch e)
theorem Kp.tupR {p q : Addr} {H H' : Hp} {a : Addr} {xs : List V} (k : Kp p q H H') (h : Tup H a xs) : Tup H' a xs := by
  rcases h with h | ⟨o, h⟩
  · exact .inl (k.tup h)
  · exact .inr ⟨o, k.nl _ _ h (fun xs e => nomatch e) (fun ps e => nomatch e)⟩
theorem Kp.pair {p q : Addr} {H H' : Hp} {a : Addr} {e : Int × Int} (k : Kp p q H H') (h : PairAt H a e) : PairAt H' a e := k.tup h
theorem Kp.pairs {p q : Addr} {H H' : Hp} {ps : List Addr} {L : List (Int × Int)} (k : Kp p q H H') (h : Paired (PairAt H) ps L) : Paired (PairAt H') ps L := paired_mono h fun _ _ z => k.pair z
theorem Kp.net {p q : Addr} {H H' : Hp} {C n : Addr} {ms : List Int} {R : List (List Int)} {L : List (Int × Int)} (k : Kp p q H H') (h : NetAt C H n ms R L) : NetAt C H' n ms R L := by
  obtain ⟨dx, pm, pn, pl, qs, ps, h1, h2, h3, h4, h5, h6⟩ := h.ob
  exact ⟨dx, pm, pn, pl, qs, ps, k.nl _ _ h1 (fun xs e => nomatch e) (fun ps e => nomatch e), k.tupR h2, k.tup h3, paired_mono h4 fun _ _ z => k.tupR z, k.tup h5, k.pairs h6⟩
theorem Kp.put {p q a : Addr} {H0 H4 H : Hp} {o : HO} (k : Kp p q H0 H4) (n : H4 a = none) (k' : Kp p q H0 H) : Kp p q H0 (L2.upd H a o) :=
  ⟨fun b u h h1 h2 => by
    rw [upd_ne (fun z => by have := k.nl b u h h1 h2; rw [z, n] at this; cases this)]
    exact k'.nl b u h h1 h2, fun b xs h1 h2 h => by
    rw [upd_ne (fun z => by have := k.ls b xs h1 h2 h; rw [z, n] at this; cases this)]
    exact k'.ls b xs h1 h2 h⟩
section
variable {X : Cx} {K : PySem.W.Frag} {C f : Addr} {fd : FuncData} {ps : List Str} {sp : L2.Sp} {n : Nat}
theorem op_ownEqK (O : OwnC K C f) (F : FnOk X.prog X.w K X.mg X.base CX0 n f fd ps sp) (hb : Binds K fd ps []) (hr : Room n X.A) (hK : X.K = K := by rfl) : OpR X (compareOp .Eq) (rOwnC K C sp false) := by subst hK; exact op_ownEq O F hb hr
theorem op_ownNeK (O : OwnC K C f) (F : FnOk X.prog X.w K X.mg X.base CX0 n f fd ps sp) (hb : Binds K fd ps []) (hr : Room (n + 1) X.A) (hK : X.K = K := by rfl) : OpR X (compareOp .NotEq) (rOwnC K C sp true) := by subst hK; exact op_ownNe O F hb hr
end
theorem rd_callK {m : Nat} {sp : L2.Sp} {gV : List V → List V → List V} {E : XK} {tk : TA} {σ : L2.St} {H : Hp} {Q : VK} (h : tk σ H fun zs H2 => zs.length = m ∧ sp (gV [] zs) H2 Q E) : KX.tCallK m sp gV E tk σ H Q := h
theorem nf_self {K : PySem.W.Frag} {C : Addr} : PySem.W.notFirst K C (.ref C) = true := by
  unfold PySem.W.notFirst
  simp
theorem rd_ownN {K : PySem.W.Frag} {C s1 s2 : Addr} {neg : Bool} {ms ms' : List Int} {R R' : List (List Int)} {L L' : List (Int × Int)} {H : Hp} {Q : VK} (I : IsCls K C) (h1 : NetAt C H s1 ms R L) (h2 : NetAt C H s2 ms' R' L') (a1 : ms.length < 1000) (b1 : L.length < 1000) (a2 : ms'.length < 1000) (b2 : L'.length < 1000)
    (q : Q (.bl (neg != (decide (ms = ms') && decide (L = L')))) H) : rOwnC K C (spEqN K C) neg (.ref s1) (.ref s2) H Q := by
  obtain ⟨dx, pm, pn, pl, qs, ps, hN, _⟩ := h1.ob
  obtain ⟨dx', pm', pn', pl', qs', ps', hN', _⟩ := h2.ob
  exact ⟨s1, dx, _, .ref C, rfl, hN, I.ty hN', nf_self, s1, .ref s2, ms, R, L, rfl, h1, a1, b1, .inr ⟨s2, ms', R', L', rfl, h2, a2, b2, _, rfl, q⟩⟩
theorem rd_ownT {K : PySem.W.Frag} {C s1 t : Addr} {neg : Bool} {ms : List Int} {R : List (List Int)} {L : List (Int × Int)} {xs : List V} {H : Hp} {Q : VK} (h1 : NetAt C H s1 ms R L) (h2 : Tup H t xs) (a1 : ms.length < 1000) (b1 : L.length < 1000) (nf : PySem.W.notFirst K C (.type "tuple") = true) (kt : PySem.W.kitOne K (.type "tuple") (.ref C) = some false)
    (q : Q (.bl (neg != false)) H) : rOwnC K C (spEqN K C) neg (.ref s1) (.ref t) H Q := by
  obtain ⟨dx, pm, pn, pl, qs, ps, hN, _⟩ := h1.ob
  exact ⟨s1, dx, _, .type "tuple", rfl, hN, h2.ty, nf, s1, .ref t, ms, R, L, rfl, h1, a1, b1, .inl ⟨"tuple", h2.ty, kt, _, rfl, q⟩⟩
/-! ### texts of small data -/
structure Rep (d : PyData) : Prop where
  s : d.showable = true
  n : d.hasDict = false
  h : d.depth ≤ 64
  l : d.shown.length ≤ sizeLine
structure Sm (d : PyData) (w k : Nat) : Prop where
  s : d.showable = true
  n : d.hasDict = false
  l : d.leavesShort 13 = true
  w : d.weight ≤ w
  h : d.depth ≤ k
structure SmA (ds : List PyData) (w k : Nat) : Prop where
  s : PyData.showableAll ds = true
  n : PyData.hasDictAll ds = false
  l : PyData.leavesShortAll 13 ds = true
  w : PyData.weightAll ds ≤ w * ds.length
  h : PyData.depthAll ds ≤ k
theorem Sm.rep {d : PyData} {w k : Nat} (h : Sm d w k) (hw : w ≤ 1000000) (hk : k ≤ 64) : Rep d := by
  refine ⟨h.s, h.n, Nat.le_trans h.h hk, ?_⟩
  have q := PyData.shown_le 13 (by decide) d h.l
  have w' := h.w
  have z : sizeLine = 16777216 := by decide
  omega
theorem sm_int {i : Int} (h0 : 0 ≤ i) (h1 : i < 1000) : Sm (.int i) 11 0 := by
  have hl : i.natAbs.log2 < 10 := PySem.Flt.log2_lt_of (by decide) (by omega : i.natAbs < 2 ^ 10)
  refine ⟨decide_eq_true (by omega), rfl, ?_, ?_, Nat.le_refl _⟩
  · exact decide_eq_true (PyData.shown_int_le (by omega))
  · show (if i == 0 then 0 else i.natAbs.log2 + 1) ≤ 11
    split <;> omega
theorem SmA.nil {w k : Nat} : SmA [] w k := ⟨rfl, rfl, rfl, Nat.zero_le _, Nat.zero_le _⟩
theorem SmA.cons {d : PyData} {ds : List PyData} {w k : Nat} (a : Sm d w k) (b : SmA ds (w + 1) k) : SmA (d :: ds) (w + 1) k := by
  refine ⟨?_, ?_, ?_, ?_, ?_⟩
  · show (d.showable && PyData.showableAll ds) = true
    rw [a.s, b.s]; rfl
  · show (d.hasDict || PyData.hasDictAll ds) = false
    rw [a.n, b.n]; rfl
  · show (d.leavesShort 13 && PyData.leavesShortAll 13 ds) = true
    rw [a.l, b.l]; rfl
  · show d.weight + 1 + PyData.weightAll ds ≤ (w + 1) * (ds.length + 1)
    have := a.w; have := b.w
    rw [Nat.mul_add]; omega
  · show max d.depth (PyData.depthAll ds) ≤ k
    have := a.h; have := b.h
    omega
theorem SmA.tuple {ds : List PyData} {w k : Nat} (a : SmA ds w k) : Sm (.tuple ds) (w * ds.length) (k + 1) :=
  ⟨a.s, a.n, a.l, a.w, Nat.add_le_add_right a.h 1⟩
theorem Sm.mono {d : PyData} {w k w' k' : Nat} (h : Sm d w k) (hw : w ≤ w') (hk : k ≤ k') : Sm d w' k' := ⟨h.s, h.n, h.l, Nat.le_trans h.w hw, Nat.le_trans h.h hk⟩
theorem sm_ints : ∀ {r : List Int}, (∀ x ∈ r, 0 ≤ x ∧ x < 10) → SmA (r.map PyData.int) 12 0
  | [], _ => .nil
  | x :: r, h => .cons (sm_int (h x (by simp)).1 (by have := (h x (by simp)).2; omega)) (sm_ints fun y hy => h y (by simp [hy]))
theorem sm_pair {e : Int × Int} (a0 : 0 ≤ e.1) (a1 : e.1 < 10) (b0 : 0 ≤ e.2) (b1 : e.2 < 10) : Sm (dP e) 24 1 :=
  (SmA.cons (sm_int a0 (by omega)) (SmA.cons (sm_int b0 (by omega)) (SmA.nil (w := 12) (k := 0)))).tuple
theorem sm_pairs : ∀ {L : List (Int × Int)}, (∀ e ∈ L, 0 ≤ e.1 ∧ e.1 < 10 ∧ 0 ≤ e.2 ∧ e.2 < 10) → SmA (L.map dP) 25 1
  | [], _ => .nil
  | e :: L, h => by
    obtain ⟨h1, h2, h3, h4⟩ := h e (by simp)
    exact .cons (sm_pair h1 h2 h3 h4) (sm_pairs fun y hy => h y (by simp [hy]))
def dNet (ms : List Int) (L : List (Int × Int)) : PyData := .tuple [.tuple (ms.map PyData.int), .tuple (L.map dP)]
theorem rep_net {ms : List Int} {L : List (Int × Int)} (hm : ∀ m ∈ ms, 0 ≤ m ∧ m < 4) (lm : ms.length ≤ 10) (hL : ∀ e ∈ L, 0 ≤ e.1 ∧ e.1 < 10 ∧ 0 ≤ e.2 ∧ e.2 < 10) (lL : L.length ≤ 40) : Rep (dNet ms L) := by
  have a := (sm_ints (r := ms) fun x hx => by have := hm x hx; omega).tuple
  rw [List.length_map] at a
  have b := (sm_pairs hL).tuple
  rw [List.length_map] at b
  have c := (SmA.cons (a.mono (w' := 1000) (k' := 2) (by omega) (by decide)) (SmA.cons (b.mono (w' := 1000) (k' := 2) (by omega) (Nat.le_refl _)) (SmA.nil (w := 1001) (k := 2)))).tuple
  exact c.rep (by show 1001 * 2 ≤ _; decide) (by decide)
theorem dp_net {K : PySem.W.Frag} {H : Hp} {t x y : Addr} {ps : List Addr} {ms : List Int} {L : List (Int × Int)} (ht : H t = some (.tup [.ref x, .ref y])) (hx : Tup H x (ms.map V.int)) (hy : Tup H y (ps.map V.ref)) (hp : Paired (PairAt H) ps L) : Dp K H (.ref t) (dNet ms L) :=
  .tup (SqT.of ht) (.cons (.tup hx.sq (dA_ints K H ms)) (.cons (.tup hy.sq (dp_pairs hp)) .nil))
theorem perm_pairs {H : Hp} {ps : List Addr} {L : List (Int × Int)} {ys : List V} (hp : Paired (PairAt H) ps L) (pm : ys.Perm (ps.map V.ref)) : ∃ qs M, ys = qs.map V.ref ∧ Paired (PairAt H) qs M ∧ M.Perm L := by
  have mem : ∀ x ∈ ps.map V.ref, ∃ t, x = V.ref t ∧ PairAt H t (keyOf H x) := fun x hx => by
    obtain ⟨t, ht, rfl⟩ := List.mem_map.mp hx
    obtain ⟨i, hi⟩ := List.getElem?_of_mem ht
    obtain ⟨e, _, he⟩ := paired_get hp hi
    exact ⟨t, rfl, by rw [keyOf_at he]; exact he⟩
  have keys : (ps.map V.ref).map (keyOf H) = L := by
    clear mem pm
    induction hp with
    | nil => rfl
    | cons x _ ih => rw [List.map_cons, List.map_cons, ih, keyOf_at x]
  have my : ∀ y ∈ ys, ∃ t, y = V.ref t ∧ PairAt H t (keyOf H y) := fun y hy => mem y (pm.mem_iff.mp hy)
  refine ⟨ys.map addrOf, ys.map (keyOf H), ?_, ?_, by rw [← keys]; exact pm.map _⟩
  · clear pm
    induction ys with
    | nil => rfl
    | cons y ys ih =>
      obtain ⟨t, rfl, _⟩ := my y List.mem_cons_self
      rw [List.map_cons, List.map_cons, ← ih fun z hz => my z (List.mem_cons_of_mem _ hz)]
      rfl
  · clear pm
    induction ys with
    | nil => exact .nil
    | cons y ys ih =>
      obtain ⟨t, rfl, ht⟩ := my y List.mem_cons_self
      exact .cons ht (ih fun z hz => my z (List.mem_cons_of_mem _ hz))
/-! ### views as data -/
def dV (w : Int × List Int) : PyData := .tuple [.int w.1, .tuple (w.2.map PyData.int)]
theorem ViewAt.dp {K : PySem.W.Frag} {H : Hp} {v : Addr} {w : Int × List Int} (h : ViewAt H v w) : Dp K H (.ref v) (dV w) := by
  obtain ⟨r, h1, h2⟩ := h
  exact .tup (SqT.of h1) (.cons (.int _) (.cons (.tup (SqT.of h2) (dA_ints K H w.2)) .nil))
theorem dp_views {K : PySem.W.Frag} {H : Hp} {vs : List Addr} {ws : List (Int × List Int)} (h : Paired (ViewAt H) vs ws) : DpAll K H (vs.map V.ref) (ws.map dV) := by
  induction h with
  | nil => exact .nil
  | cons a _ ih => exact .cons a.dp ih
theorem dV_eqv1 (u w : Int × List Int) : PyData.eqv (dV u) (dV w) = decide (u = w) := by
  obtain ⟨a, r⟩ := u
  obtain ⟨b, s⟩ := w
  show ((a == b) && (PyData.eqvAll (r.map PyData.int) (s.map PyData.int) && true)) = _
  rw [dA_eqv]
  by_cases h1 : a = b
  · by_cases h2 : r = s <;> simp [h1, h2]
  · simp [h1]
theorem dV_eqv : ∀ L M : List (Int × List Int), PyData.eqvAll (L.map dV) (M.map dV) = decide (L = M)
  | [], [] => rfl
  | [], m :: ms => by simp [PyData.eqvAll]
  | n :: ns, [] => by simp [PyData.eqvAll]
  | n :: ns, m :: ms => by
    show (PyData.eqv (dV n) (dV m) && PyData.eqvAll (ns.map dV) (ms.map dV)) = _
    rw [dV_eqv ns ms, dV_eqv1]
    by_cases h1 : n = m
    · by_cases h2 : ns = ms <;> simp [h1, h2]
    · simp [h1]
theorem dV_lay1 (w : Int × List Int) : PyData.canLay0 (dV w) = true := by
  show (PyData.canLay0 (.int w.1) && (PyData.canLayAll0 (w.2.map PyData.int) && true)) = true
  rw [dA_lay]; rfl
theorem dV_lay : ∀ L : List (Int × List Int), PyData.canLayAll0 (L.map dV) = true
  | [] => rfl
  | n :: ns => by
    show (PyData.canLay0 (dV n) && PyData.canLayAll0 (ns.map dV)) = true
    rw [dV_lay ns, dV_lay1]; rfl
theorem dV_dep1 (w : Int × List Int) : PyData.depth (dV w) ≤ 3 := by
  show max 0 (max (PyData.depthAll (w.2.map PyData.int) + 1) 0) + 1 ≤ 3
  have := dA_dep w.2
  omega
theorem dV_dep : ∀ L : List (Int × List Int), PyData.depthAll (L.map dV) ≤ 3
  | [] => Nat.zero_le 3
  | n :: ns => by
    have h := dV_dep ns
    have h1 := dV_dep1 n
    show max (PyData.depth (dV n)) (PyData.depthAll (ns.map dV)) ≤ 3
    omega
theorem dV_shL (L : List (Int × List Int)) : SeqAt.shaped (.list (L.map dV)) = true := by
  have h := dV_dep L
  have h1 : PyData.depth (.list (L.map dV)) = PyData.depthAll (L.map dV) + 1 := rfl
  unfold SeqAt.shaped
  have h2 : PyData.canLay0 (.list (L.map dV)) = PyData.canLayAll0 (L.map dV) := rfl
  rw [h2, dV_lay, h1, Bool.true_and]
  exact decide_eq_true (by omega)
theorem dV_shT (L : List (Int × List Int)) : SeqAt.shaped (.tuple (L.map dV)) = true := by
  have h := dV_dep L
  have h1 : PyData.depth (.tuple (L.map dV)) = PyData.depthAll (L.map dV) + 1 := rfl
  unfold SeqAt.shaped
  have h2 : PyData.canLay0 (.tuple (L.map dV)) = PyData.canLayAll0 (L.map dV) := rfl
  rw [h2, dV_lay, h1, Bool.true_and]
  exact decide_eq_true (by omega)
theorem dV_sh1 (w : Int × List Int) : SeqAt.shaped (dV w) = true := by
  have h := dV_dep1 w
  unfold SeqAt.shaped
  rw [dV_lay1, Bool.true_and]
  exact decide_eq_true (by omega)
end K65

namespace K65
open PySem PySem.Spec PyProof.Rows L2 KX
local macro_rules | `(tactic| walk_at "rd1") => `(tactic| first
  | with_reducible refine rd_seq ?_
  | with_reducible refine rd_for ?_
  | with_reducible refine rd_lc ?_
  | with_reducible refine rd_asg ?_
  | ((with_reducible refine' rd_var ?rdv ?_); (case rdv => exact rfl))
  | with_reducible refine rd_c ?_
  | with_reducible refine rd_op ?_
  | with_reducible refine rd_un ?_
  | with_reducible refine rd_cons ?_
  | with_reducible refine rd_nil ?_
  | with_reducible refine rd_call ?_
  | with_reducible refine rd_cb ?_
  | with_reducible refine rd_tB ?_
  | with_reducible refine rd_test ?_
  | with_reducible refine rd_bl ?_
  | with_reducible refine rd_rI0 ?_
  | with_reducible refine rd_eqI ?_
  | with_reducible refine rd_neI ?_
  | with_reducible refine rd_rU ?_
  | with_reducible refine rd_name ?_
  | with_reducible refine rd_ifs ?_
  | with_reducible refine rd_and ?_
  | with_reducible refine rd_or ?_
  | with_reducible refine rd_not ?_
  | with_reducible refine rd_yes ?_
  | with_reducible refine rd_andV ?_
  | with_reducible refine rd_orV ?_
  | with_reducible refine rd_notV ?_
  | with_reducible refine rd_if ?_
  | with_reducible refine rd_isN ?_
  | with_reducible refine rd_iT ?_
  | with_reducible refine rd_iF ?_
  | with_reducible refine rd_ret ?_
  | with_reducible refine rd_retN ?_
  | with_reducible refine rd_drop ?_
  | with_reducible refine rd_next ?_
  | with_reducible refine rd_cont ?_
  | with_reducible refine rd_brk ?_
  | with_reducible refine rd_nx ?_
  | with_reducible refine rd_rt ?_
  | with_reducible refine rd_ct ?_
  | with_reducible refine rd_bk ?_
  | with_reducible refine rd_par ?_
  | with_reducible refine rd_par3 ?_
  | with_reducible refine rd_par2 ?_
  | with_reducible refine rd_par33 ?_
  | with_reducible refine rd_gcons ?_
  | with_reducible refine rd_gnil ?_
  | with_reducible refine rd_sub ?_
  | with_reducible refine rd_tup ?_
  | with_reducible refine rd_lst ?_
  | ((with_reducible refine rd_tupT ?hl ?_); (case hl => exact Nat.le_of_ble_eq_true rfl))
  | ((with_reducible refine rd_lstT ?hl ?_); (case hl => exact Nat.le_of_ble_eq_true rfl))
  | with_reducible refine rd_bm ?_
  | with_reducible refine rd_bm0 ?_
  | with_reducible refine rd_sl ?_
  | with_reducible refine rd_noP ?_
  | with_reducible refine rd_part ?_
  | with_reducible refine rd_int ?_
  | with_reducible refine rd_int1 ?_
  | with_reducible refine rd_fld ?_
  | with_reducible refine rd_then ?_
  | with_reducible refine rd_raise ?_
  | with_reducible refine rd_one ?_
  | with_reducible refine rd_sfld ?_
  | with_reducible refine rd_ilist ?_
  | with_reducible refine rd_itup ?_
  | with_reducible refine rd_rng1 ?_
  | with_reducible refine rd_enum ?_
  | with_reducible refine rd_enumT ?_)
local macro_rules | `(tactic| walk_at "rd") => `(tactic| repeat (walk_at "rd1"))
/-- a network's data -/
structure Nw (ms : List Int) (L : List (Int × Int)) : Prop where
  g : Good ms.length 4 L
  srt : L.Pairwise lexlt
  mb : ∀ m ∈ ms, 0 ≤ m ∧ m < 4
  m0 : ms ≠ []
  ml : ms.length < 1000
theorem Nw.lL {ms : List Int} {L : List (Int × Int)} (h : Nw ms L) : L.length < 10000 := by have := good_len h.g; have := h.ml; omega
abbrev NetL (C : Addr) (H : Hp) (p : Addr) (ms : List Int) (L : List (Int × Int)) : Prop := NetAt C H p ms (rowsL ms.length L) L
theorem net_same {C : Addr} {H H' : Hp} {p : Addr} {ms : List Int} {R : List (List Int)} {L : List (Int × Int)} (h : NetAt C H p ms R L) (s : Same H H') : NetAt C H' p ms R L := net_nl h fun a o e _ _ => s a o e
/-! ### tables -/
inductive RowIs (K : PySem.W.Frag) (H : Hp) (k : Nat) : V → Bool → Prop
  | ntp {x : V} {s : String} (t : TyX K H x (.type s)) (q : kitB s "tuple" = some false) : RowIs K H k x false
  | len {a : Addr} {xs : List V} (h : Tup H a xs) (l : xs.length ≠ k) : RowIs K H k (.ref a) false
  | ok {a : Addr} {xs : List V} {os : List (Option Int)} (h : Tup H a xs) (l : xs.length = k) (p : Paired (Kin K H) xs os) : RowIs K H k (.ref a) (os.all Option.isSome)
theorem RowIs.same {K : PySem.W.Frag} {H H' : Hp} {k : Nat} {x : V} {b : Bool} (h : RowIs K H k x b) (s : Same H H') : RowIs K H' k x b := by
  cases h with
  | ntp t q => exact .ntp (tyx_same t s) q
  | len h l => exact .len (h.same s) l
  | ok h l p => exact .ok (h.same s) l (kins_same p s)
inductive RowsIs (K : PySem.W.Frag) (H : Hp) (k m : Nat) : V → Bool → Prop
  | ntp {x : V} {s : String} (t : TyX K H x (.type s)) (q : kitB s "tuple" = some false) : RowsIs K H k m x false
  | len {a : Addr} {xs : List V} (h : Tup H a xs) (l : xs.length ≠ m) : RowsIs K H k m (.ref a) false
  | ok {a : Addr} {xs : List V} {bs : List Bool} (h : Tup H a xs) (l : xs.length = m) (p : Paired (RowIs K H k) xs bs) : RowsIs K H k m (.ref a) (bs.all id)
theorem RowsIs.same {K : PySem.W.Frag} {H H' : Hp} {k m : Nat} {x : V} {b : Bool} (h : RowsIs K H k m x b) (s : Same H H') : RowsIs K H' k m x b := by
  cases h with
  | ntp t q => exact .ntp (tyx_same t s) q
  | len h l => exact .len (h.same s) l
  | ok h l p => exact .ok (h.same s) l (paired_mono p fun _ _ z => z.same s)
/-- a table: rows of numbers -/
def TabAt (H : Hp) (t : Addr) (W : List (List Int)) : Prop := ∃ qs : List Addr, Tup H t (qs.map V.ref) ∧ Paired (RowT H) qs W
theorem rowT_same {H H' : Hp} {q : Addr} {ns : List Int} (h : RowT H q ns) (s : Same H H') : RowT H' q ns := Tup.same h s
theorem TabAt.same {H H' : Hp} {t : Addr} {W : List (List Int)} (h : TabAt H t W) (s : Same H H') : TabAt H' t W := by
  obtain ⟨qs, a, b⟩ := h
  exact ⟨qs, a.same s, paired_mono b fun _ _ z => rowT_same z s⟩
def at2 (W : List (List Int)) (a b : Int) : Int := modeAt (rowOf W a) b
theorem paired_get' {α β : Type} {F : α → β → Prop} {l : List α} {m : List β} (h : Paired F l m) : ∀ {i : Nat} {y : β}, m[i]? = some y → ∃ x, l[i]? = some x ∧ F x y := by
  induction h with
  | nil => intro i y h; simp at h
  | cons a _ ih =>
    intro i y h
    cases i with
    | zero => simp at h; subst h; exact ⟨_, rfl, a⟩
    | succ i => exact ih h
theorem TabAt.row {H : Hp} {t : Addr} {W : List (List Int)} (h : TabAt H t W) {a : Int} (h0 : 0 ≤ a) (h1 : a < W.length) : ∃ xs q, Tup H t xs ∧ atI xs a = some (.ref q) ∧ RowT H q (rowOf W a) := by
  obtain ⟨qs, hq, hp⟩ := h
  obtain ⟨n, rfl⟩ := Int.eq_ofNat_of_zero_le h0
  have hn : n < W.length := by omega
  obtain ⟨q, e, r⟩ := paired_get' hp (List.getElem?_eq_getElem hn)
  have er : rowOf W (n : Nat) = W[n] := by
    unfold rowOf
    have : ((n : Nat) : Int).toNat = n := by omega
    rw [this, List.getD_eq_getElem?_getD, List.getElem?_eq_getElem hn]; rfl
  exact ⟨_, q, hq, atI_nat (by rw [List.getElem?_map, e]; rfl), by rw [er]; exact r⟩
theorem rowOf_mem' {W : List (List Int)} {a : Int} (h0 : 0 ≤ a) (h1 : a < W.length) : rowOf W a ∈ W := by
  unfold rowOf
  have hn : a.toNat < W.length := by omega
  rw [List.getD_eq_getElem?_getD, List.getElem?_eq_getElem hn]
  exact List.getElem_mem hn
/-- a square table of k rows: even or not -/
def evenB (k : Nat) (W : List (List Int)) : Bool := (List.range k).all fun a => (List.range a).all fun b => decide (at2 W (a : Nat) (b : Nat) = at2 W (b : Nat) (a : Nat))
inductive EvIs (K : PySem.W.Frag) (H : Hp) (k : Nat) : V → Bool → Prop
  | no {x : V} (r : RowsIs K H k k x false) : EvIs K H k x false
  | tab {t : Addr} {W : List (List Int)} (h : TabAt H t W) (l : W.length = k) (r : ∀ r ∈ W, r.length = k) : EvIs K H k (.ref t) (evenB k W)
theorem EvIs.same {K : PySem.W.Frag} {H H' : Hp} {k : Nat} {x : V} {b : Bool} (h : EvIs K H k x b) (s : Same H H') : EvIs K H' k x b := by
  cases h with
  | no r => exact .no (r.same s)
  | tab h l r => exact .tab (h.same s) l r
theorem kin_ints (K : PySem.W.Frag) (H : Hp) : ∀ r : List Int, Paired (Kin K H) (r.map V.int) (r.map some)
  | [] => .nil
  | x :: r => .cons (.int x) (kin_ints K H r)
theorem TabAt.rows {K : PySem.W.Frag} {H : Hp} {t : Addr} {W : List (List Int)} {k m : Nat} (h : TabAt H t W) (l : W.length = m) (r : ∀ r ∈ W, r.length = k) : RowsIs K H k m (.ref t) true := by
  obtain ⟨qs, hq, hp⟩ := h
  have lq := paired_len hp
  have p : ∀ {qs : List Addr} {W : List (List Int)}, Paired (RowT H) qs W → (∀ r ∈ W, r.length = k) → Paired (RowIs K H k) (qs.map V.ref) (W.map fun _ => true) := fun {qs W} z hr => by
    induction z with
    | nil => exact .nil
    | @cons q r qs W a _ ih =>
      refine .cons ?_ (ih fun r h => hr r (List.mem_cons_of_mem _ h))
      have e : (r.map some).all Option.isSome = true := by simp
      have z : RowIs K H k (.ref q) ((r.map some).all Option.isSome) := .ok a (by rw [List.length_map]; exact hr r List.mem_cons_self) (kin_ints K H r)
      rwa [e] at z
  have e : (W.map fun _ => true).all id = true := by simp
  have z : RowsIs K H k m (.ref t) ((W.map fun _ => true).all id) := .ok hq (by rw [List.length_map, lq, l]) (p hp r)
  rwa [e] at z
def spRows (K : PySem.W.Frag) : L2.Sp := fun vs H Q _ => ∃ (k m : Nat) (x : V) (b : Bool), vs = [.int (k : Nat), .int (m : Nat), x] ∧ m < 1000 ∧ k < 1000 ∧ RowsIs K H k m x b ∧ ∀ H', Same H H' → Q (.bl b) H'
def spEven (K : PySem.W.Frag) : L2.Sp := fun vs H Q _ => ∃ (k : Nat) (x : V) (b : Bool), vs = [.int (k : Nat), x] ∧ k < 10 ∧ EvIs K H k x b ∧ ∀ H', Same H H' → Q (.bl b) H'
inductive WgIs (K : PySem.W.Frag) (H : Hp) (k : Nat) : V → Bool → Prop
  | ntp {x : V} {s : String} (t : TyX K H x (.type s)) (q : kitB s "tuple" = some false) : WgIs K H k x false
  | len {a : Addr} {xs : List V} (h : Tup H a xs) (l : xs.length ≠ 2) : WgIs K H k (.ref a) false
  | odd {a : Addr} {y z : V} (h : Tup H a [y, z]) (e : EvIs K H k y false) : WgIs K H k (.ref a) false
  | two {a : Addr} {y z : V} {b : Bool} (h : Tup H a [y, z]) (e : EvIs K H k y true) (r : RowsIs K H k 5 z b) : WgIs K H k (.ref a) b
theorem WgIs.same {K : PySem.W.Frag} {H H' : Hp} {k : Nat} {x : V} {b : Bool} (h : WgIs K H k x b) (s : Same H H') : WgIs K H' k x b := by
  cases h with
  | ntp t q => exact .ntp (tyx_same t s) q
  | len h l => exact .len (h.same s) l
  | odd h e => exact .odd (h.same s) (e.same s)
  | two h e r => exact .two (h.same s) (e.same s) (r.same s)
def spWg (K : PySem.W.Frag) : L2.Sp := fun vs H Q _ => ∃ (k : Nat) (x : V) (b : Bool), vs = [.int (k : Nat), x] ∧ k < 10 ∧ WgIs K H k x b ∧ ∀ H', Same H H' → Q (.bl b) H'
section
variable {P : Program} {w : World} {K : PySem.W.Frag} {mg : Str → Option Value} {base : Heap} (T : TX K mg)
theorem G_are_rows : FnOk P w K mg base CX0 2 T.f_are_rows T.d_are_rows ["modes", "many", "value"] (spRows K) := by
  refine T.F_are_rows.ok sc_are_rows (fun vs H Q E h => ?_) fun cdv A outer s H vs Q E hr h => ⟨_, (pss_cons (ps_if (pt_not (pt_val (pe_call (G_is_tuple_of T) (hr.mono (by decide)) (by rfl) T.m_is_tuple_of T.F_is_tuple_of.kp T.b_is_tuple_of .nil pass0 (by exact (pa_cons (pv 2) (pa_cons (pv 1) pa_nil)))))) (pss_one (ps_ret pe_bl)) pss_nil) (pss_one (ps_ret (pe_callB (cr_allK (K := K) rfl) (by rfl) T.n_all (by decide +kernel) (by exact (pa_cons (by exact (pe_lc (own := [("row", 3)]) (by rfl) sc_are_rows.nd (pi_tupK (K := K) (pv 2)) (blkOk_by (own := [("row", 3)]) (N := N_are_rows) (sc := defScope s_are_rows) (by decide +kernel)) (fun _ _ _ _ _ => (pg_name (i := 3) sc_are_rows.nd rfl (.inl rfl))) (fun _ _ _ _ _ => pts_nil) (fun _ _ _ _ _ => (pe_and (pe_call (G_is_tuple_of T) (hr.mono (by decide)) (by rfl) T.m_is_tuple_of T.F_is_tuple_of.kp T.b_is_tuple_of .nil pass0 (by exact (pa_cons (pv 3) (pa_cons (pv 0) pa_nil)))) (pe_one (pe_callB (cr_allK (K := K) rfl) (by rfl) T.n_all (by decide +kernel) (by exact (pa_cons (by exact (pe_lc (own := [("number", 4)]) (by rfl) sc_are_rows.nd (pi_tupK (K := K) (pv 3)) (blkOk_by (own := [("number", 4)]) (N := N_are_rows) (sc := ({ kind := PySem.ScopeKind.function, names := [(PySem.Str.ofString ".0", PySem.NameKind.local), (PySem.Str.ofString "row", PySem.NameKind.local), (PySem.Str.ofString "is_tuple_of", PySem.NameKind.globalImplicit), (PySem.Str.ofString "all", PySem.NameKind.globalImplicit), (PySem.Str.ofString "modes", PySem.NameKind.cell)], isGenerator := false, isCoroutine := false, more := [] } : PySem.Scope)) (by decide +kernel)) (fun _ _ _ _ _ => (pg_name (i := 4) sc_are_rows.nd rfl (.inl rfl))) (fun _ _ _ _ _ => pts_nil) (fun _ _ _ _ _ => (pe_call (G_is_integer T) (hr.mono (by decide)) (by rfl) T.m_is_integer T.F_is_integer.kp T.b_is_integer .nil pass0 (by exact (pa_cons (pv 4) pa_nil)))) )) pa_nil)))))) )) pa_nil)))))), ?_⟩
  · obtain ⟨k, m, x, b, rfl, _⟩ := h
    rfl
  · obtain ⟨k, m, x, b, rfl, m9, k9, hx, hQ⟩ := h
    walk_at "rd"
    cases hx with
    | ntp t q =>
      refine ⟨_, _, rfl, .inl ⟨_, t, q, ?_⟩⟩
      walk_at "rd"
      refine iteT' rfl ?_
      walk_at "rd"
      exact hQ H (Same.refl H)
    | @len a xs h l =>
      refine ⟨_, _, rfl, .inr ⟨a, xs, rfl, h, ?_⟩⟩
      walk_at "rd"
      refine iteT' (by simp; omega) ?_
      walk_at "rd"
      exact hQ H (Same.refl H)
    | @ok a xs bs h l p =>
      refine ⟨_, _, rfl, .inr ⟨a, xs, rfl, h, ?_⟩⟩
      walk_at "rd"
      refine iteF' (by simp; omega) ?_
      walk_at "rd"
      refine ⟨a, rfl, ⟨_, h.sq⟩, fun D hD => ?_⟩
      have lb := paired_len p
      refine lcv_tup (xs := xs) (bs.map V.bl) h (by rw [List.length_map]; omega) (by rw [List.length_map]; omega) hD (fun j x z' H1 hx hz S1 R' hR' => ?_) (fun H1 S1 hD1 => ?_)
      · rw [List.getElem?_map] at hz
        obtain ⟨b, hb, rfl⟩ := Option.map_eq_some_iff.mp hz
        obtain ⟨b', hb', rb⟩ := paired_get p hx
        rw [hb] at hb'
        cases hb'
        walk_at "rd"
        refine ⟨rfl, ?_⟩
        walk_at "rd"
        cases rb.same S1 with
        | ntp t q =>
          refine ⟨_, _, rfl, .inl ⟨_, t, q, ?_⟩⟩
          walk_at "rd"
          exact hR' H1 (Same.refl _)
        | @len a2 ys h2 l2 =>
          refine ⟨_, _, rfl, .inr ⟨a2, ys, rfl, h2, ?_⟩⟩
          walk_at "rd"
          have e : decide (((ys.length : Nat) : Int) = ((k : Nat) : Int)) = false := decide_eq_false (by omega)
          rw [e]
          refine iteF' rfl ?_
          exact hR' H1 (Same.refl _)
        | @ok a2 ys os h2 l2 p2 =>
          refine ⟨_, _, rfl, .inr ⟨a2, ys, rfl, h2, ?_⟩⟩
          walk_at "rd"
          have e : decide (((ys.length : Nat) : Int) = ((k : Nat) : Int)) = true := decide_eq_true (by omega)
          rw [e]
          refine iteT' rfl ?_
          walk_at "rd"
          refine ⟨a2, rfl, ⟨_, h2.sq⟩, fun D2 hD2 => ?_⟩
          have lo := paired_len p2
          refine lcv_tup (xs := ys) (os.map fun o => V.bl o.isSome) h2 (by rw [List.length_map]; omega) (by rw [List.length_map]; omega) hD2 (fun i y z2 H2 hy hz2 S2 R2 hR2 => ?_) (fun H2 S2 hD2 => ?_)
          · rw [List.getElem?_map] at hz2
            obtain ⟨o, ho, rfl⟩ := Option.map_eq_some_iff.mp hz2
            obtain ⟨o', ho', ko⟩ := paired_get p2 hy
            rw [ho] at ho'
            cases ho'
            walk_at "rd"
            refine ⟨rfl, ?_⟩
            walk_at "rd"
            exact ⟨_, _, rfl, kin_same ko S2, hR2 H2 (Same.refl _)⟩
          · walk_at "rd"
            have e3 : (os.map fun o => V.bl o.isSome) = (os.map Option.isSome).map V.bl := by simp
            rw [e3] at hD2
            refine rd_all hD2 ?_
            have e4 : (os.map Option.isSome).all id = os.all Option.isSome := by simp [List.all_map]
            rw [e4]
            exact hR' H2 S2
      · walk_at "rd"
        refine rd_all hD1 ?_
        exact hQ H1 S1
end
end K65

namespace K65
open PySem PySem.Spec PyProof.Rows L2 KX
local macro_rules | `(tactic| walk_at "rd1") => `(tactic| first
  | with_reducible refine rd_seq ?_
  | with_reducible refine rd_for ?_
  | with_reducible refine rd_lc ?_
  | with_reducible refine rd_asg ?_
  | ((with_reducible refine' rd_var ?rdv ?_); (case rdv => exact rfl))
  | with_reducible refine rd_c ?_
  | with_reducible refine rd_op ?_
  | with_reducible refine rd_un ?_
  | with_reducible refine rd_cons ?_
  | with_reducible refine rd_nil ?_
  | with_reducible refine rd_call ?_
  | with_reducible refine rd_cb ?_
  | with_reducible refine rd_tB ?_
  | with_reducible refine rd_test ?_
  | with_reducible refine rd_bl ?_
  | with_reducible refine rd_rI0 ?_
  | with_reducible refine rd_eqI ?_
  | with_reducible refine rd_neI ?_
  | with_reducible refine rd_rU ?_
  | with_reducible refine rd_name ?_
  | with_reducible refine rd_ifs ?_
  | with_reducible refine rd_and ?_
  | with_reducible refine rd_or ?_
  | with_reducible refine rd_not ?_
  | with_reducible refine rd_yes ?_
  | with_reducible refine rd_andV ?_
  | with_reducible refine rd_orV ?_
  | with_reducible refine rd_notV ?_
  | with_reducible refine rd_if ?_
  | with_reducible refine rd_isN ?_
  | with_reducible refine rd_iT ?_
  | with_reducible refine rd_iF ?_
  | with_reducible refine rd_ret ?_
  | with_reducible refine rd_retN ?_
  | with_reducible refine rd_drop ?_
  | with_reducible refine rd_next ?_
  | with_reducible refine rd_cont ?_
  | with_reducible refine rd_brk ?_
  | with_reducible refine rd_nx ?_
  | with_reducible refine rd_rt ?_
  | with_reducible refine rd_ct ?_
  | with_reducible refine rd_bk ?_
  | with_reducible refine rd_par ?_
  | with_reducible refine rd_par3 ?_
  | with_reducible refine rd_par2 ?_
  | with_reducible refine rd_par33 ?_
  | with_reducible refine rd_gcons ?_
  | with_reducible refine rd_gnil ?_
  | with_reducible refine rd_sub ?_
  | with_reducible refine rd_tup ?_
  | with_reducible refine rd_lst ?_
  | ((with_reducible refine rd_tupT ?hl ?_); (case hl => exact Nat.le_of_ble_eq_true rfl))
  | ((with_reducible refine rd_lstT ?hl ?_); (case hl => exact Nat.le_of_ble_eq_true rfl))
  | with_reducible refine rd_bm ?_
  | with_reducible refine rd_bm0 ?_
  | with_reducible refine rd_sl ?_
  | with_reducible refine rd_noP ?_
  | with_reducible refine rd_part ?_
  | with_reducible refine rd_int ?_
  | with_reducible refine rd_int1 ?_
  | with_reducible refine rd_fld ?_
  | with_reducible refine rd_then ?_
  | with_reducible refine rd_raise ?_
  | with_reducible refine rd_one ?_
  | with_reducible refine rd_sfld ?_
  | with_reducible refine rd_ilist ?_
  | with_reducible refine rd_itup ?_
  | with_reducible refine rd_rng1 ?_
  | with_reducible refine rd_enum ?_
  | with_reducible refine rd_enumT ?_)
local macro_rules | `(tactic| walk_at "rd") => `(tactic| repeat (walk_at "rd1"))
theorem rd_at2 {K : PySem.W.Frag} {H : Hp} {t : Addr} {W : List (List Int)} {a : Int} {Q : VK} (h : TabAt H t W) (h0 : 0 ≤ a) (h1 : a < W.length) (q : ∀ r, RowT H r (rowOf W a) → Q (.ref r) H) : rIxT K (.ref t) (.int a) H Q := by
  obtain ⟨xs, r, hx, ha, hr⟩ := h.row h0 h1
  exact rd_ixT hx ha (q r hr)
theorem rd_rowAt {K : PySem.W.Frag} {H : Hp} {r : Addr} {ns : List Int} {b : Int} {Q : VK} (h : RowT H r ns) (h0 : 0 ≤ b) (h1 : b < ns.length) (q : Q (.int (modeAt ns b)) H) : rIxT K (.ref r) (.int b) H Q :=
  rd_ixT h (modeAt_get h0 h1) q
section
variable {P : Program} {w : World} {K : PySem.W.Frag} {mg : Str → Option Value} {base : Heap} (T : TX K mg)
theorem G_is_even_table : FnOk P w K mg base CX0 3 T.f_is_even_table T.d_is_even_table ["modes", "value"] (spEven K) := by
  refine T.F_is_even_table.ok sc_is_even_table (fun vs H Q E h => ?_) fun cdv A outer s H vs Q E hr h => ⟨_, (pss_cons (ps_if (pt_not (pt_val (pe_call (G_are_rows T) (hr.mono (by decide)) (by rfl) T.m_are_rows T.F_are_rows.kp T.b_are_rows .nil pass0 (by exact (pa_cons (pv 0) (pa_cons (pv 0) (pa_cons (pv 1) pa_nil))))))) (pss_one (ps_ret pe_bl)) pss_nil) (pss_one (ps_ret (pe_callB (cr_allK (K := K) rfl) (by rfl) T.n_all (by decide +kernel) (by exact (pa_cons (by exact (pe_lc2 (own := [("a", 2), ("b", 3)]) (vs1 := [3]) (by rfl) sc_is_even_table.nd (pi_range1 (by rfl) T.n_range (by exact (pa_cons (pv 0) pa_nil))) (blkOk_by (own := [("a", 2), ("b", 3)]) (N := N_is_even_table) (sc := defScope s_is_even_table) (by decide +kernel)) (by decide) (fun _ _ _ _ _ => (pg_name (i := 2) sc_is_even_table.nd rfl (.inl rfl))) (fun _ _ _ _ _ => pts_nil) (fun _ _ _ _ _ => (by exact (pi_range1 (by rfl) T.n_range (by exact (pa_cons (pv 2) pa_nil))))) (fun _ _ _ _ _ => (pg_name (i := 3) sc_is_even_table.nd rfl (.inl rfl))) (fun _ _ _ _ _ => pts_nil) (fun _ _ _ _ _ => (pe_cmpR op_eq (pe_ix (ix_tupK (K := K)) (pe_ix (ix_tupK (K := K)) (pv 1) (pv 2) (fun _ _ => rfl)) (pv 3) (fun _ _ => rfl)) (pe_ix (ix_tupK (K := K)) (pe_ix (ix_tupK (K := K)) (pv 1) (pv 3) (fun _ _ => rfl)) (pv 2) (fun _ _ => rfl)) (nomark _))) )) pa_nil)))))), ?_⟩
  · obtain ⟨k, x, b, rfl, _⟩ := h
    rfl
  · obtain ⟨k, x, b, rfl, k9, hx, hQ⟩ := h
    walk_at "rd"
    cases hx with
    | no r =>
      refine ⟨k, k, _, _, rfl, by omega, by omega, r, fun H1 S1 => ?_⟩
      walk_at "rd"
      refine iteT' rfl ?_
      walk_at "rd"
      exact hQ H1 S1
    | @tab t W h l r =>
      refine ⟨k, k, _, _, rfl, by omega, by omega, h.rows l r, fun H1 S1 => ?_⟩
      walk_at "rd"
      refine iteF' rfl ?_
      walk_at "rd"
      unfold tLc2
      walk_at "rd"
      refine ⟨by omega, by omega, fun D hD => ?_⟩
      refine it_wk (walk_rng (lo := 0) (n := k)) (fun i H' => Same H1 H' ∧ ∃ bs : List Bool, H' D = some (.lst (bs.map V.bl)) ∧ bs.length ≤ 10 * i ∧ bs.all id = (List.range i).all fun a => (List.range a).all fun b => decide (at2 W (a : Nat) (b : Nat) = at2 W (b : Nat) (a : Nat)))
        ⟨Same.fresh hD, [], upd_same, Nat.zero_le _, rfl⟩ (fun _ _ _ _ => trivial) (fun i v H2 H3 hi p y => ?_) (fun H2 p => ?_)
      · obtain ⟨S2, bs, hbs, lbs, ebs⟩ := p
        obtain ⟨rfl, rfl⟩ := y
        rw [Int.zero_add]
        walk_at "rd"
        refine ⟨rfl, ?_⟩
        walk_at "rd"
        refine ⟨by omega, by omega, ?_⟩
        have e0 : ((i : Nat) : Int).toNat = i := by omega
        rw [e0]
        refine it_wk (walk_rng (lo := 0) (n := i)) (fun j H' => Same H1 H' ∧ ∃ bs : List Bool, H' D = some (.lst (bs.map V.bl)) ∧ bs.length ≤ 10 * i + j ∧ bs.all id = (((List.range i).all fun a => (List.range a).all fun b => decide (at2 W (a : Nat) (b : Nat) = at2 W (b : Nat) (a : Nat))) && (List.range j).all fun b => decide (at2 W (i : Nat) (b : Nat) = at2 W (b : Nat) (i : Nat))))
          ⟨S2, bs, hbs, by omega, by rw [ebs]; simp⟩ (fun _ _ _ _ => trivial) (fun j v H4 H5 hj p y => ?_) (fun H4 p => ?_)
        · obtain ⟨S4, cs, hcs, lcs, ecs⟩ := p
          obtain ⟨rfl, rfl⟩ := y
          rw [Int.zero_add]
          have ht := (h.same S1).same S4
          walk_at "rd"
          refine ⟨rfl, ?_⟩
          walk_at "rd"
          refine rd_at2 ht (by omega) (by omega) fun r1 hr1 => ?_
          walk_at "rd"
          refine rd_rowAt hr1 (by omega) (by rw [r _ (rowOf_mem' (by omega) (by omega))]; omega) ?_
          walk_at "rd"
          refine rd_at2 ht (by omega) (by omega) fun r2 hr2 => ?_
          walk_at "rd"
          refine rd_rowAt hr2 (by omega) (by rw [r _ (rowOf_mem' (by omega) (by omega))]; omega) ?_
          walk_at "rd"
          refine ⟨_, hcs, ?_, same_put S4 hD, cs ++ [decide (at2 W (i : Nat) (j : Nat) = at2 W (j : Nat) (i : Nat))], by rw [upd_same, List.map_append]; rfl, by rw [List.length_append]; simp; omega, ?_⟩
          · rw [List.length_map]
            exact Nat.lt_of_le_of_lt (by omega : cs.length ≤ 1000) (by decide)
          · rw [List.all_append, ecs, List.range_succ, List.all_append]
            simp [Bool.and_assoc]
        · obtain ⟨S4, cs, hcs, lcs, ecs⟩ := p
          refine ⟨S4, cs, hcs, by omega, ?_⟩
          rw [ecs, List.range_succ, List.all_append]
          simp
      · obtain ⟨S2, bs, hbs, lbs, ebs⟩ := p
        walk_at "rd"
        refine rd_all hbs ?_
        rw [ebs]
        exact hQ H2 (S1.trans S2)
theorem G_is_weighing : FnOk P w K mg base CX0 4 T.f_is_weighing T.d_is_weighing ["modes", "value"] (spWg K) := by
  refine T.F_is_weighing.ok sc_is_weighing (fun vs H Q E h => ?_) fun cdv A outer s H vs Q E hr h => ⟨_, (pss_cons (ps_if (pt_not (pt_val (pe_call (G_is_tuple_of T) (hr.mono (by decide)) (by rfl) T.m_is_tuple_of T.F_is_tuple_of.kp T.b_is_tuple_of .nil pass0 (by exact (pa_cons (pv 1) (pa_cons pe_int pa_nil)))))) (pss_one (ps_ret pe_bl)) pss_nil) (pss_one (ps_ret (pe_and (pe_call (G_is_even_table T) (hr.mono (by decide)) (by rfl) T.m_is_even_table T.F_is_even_table.kp T.b_is_even_table .nil pass0 (by exact (pa_cons (pv 0) (pa_cons (pe_ix (ix_tupK (K := K)) (pv 1) pe_int (fun _ _ => rfl)) pa_nil)))) (pe_one (pe_call (G_are_rows T) (hr.mono (by decide)) (by rfl) T.m_are_rows T.F_are_rows.kp T.b_are_rows .nil pass0 (by exact (pa_cons (pv 0) (pa_cons (pe_op op_add (pe_glob (v := .int 4) rfl T.m_MOST_NEIGHBOURS ⟨_, rfl⟩) pe_int) (pa_cons (pe_ix (ix_tupK (K := K)) (pv 1) pe_int (fun _ _ => rfl)) pa_nil)))))))))), ?_⟩
  · obtain ⟨k, x, b, rfl, _⟩ := h
    rfl
  · obtain ⟨k, x, b, rfl, k9, hx, hQ⟩ := h
    walk_at "rd"
    cases hx with
    | ntp t q =>
      refine ⟨_, _, rfl, .inl ⟨_, t, q, ?_⟩⟩
      walk_at "rd"
      refine iteT' rfl ?_
      walk_at "rd"
      exact hQ H (Same.refl H)
    | @len a xs h l =>
      refine ⟨_, _, rfl, .inr ⟨a, xs, rfl, h, ?_⟩⟩
      walk_at "rd"
      refine iteT' (by simp; omega) ?_
      walk_at "rd"
      exact hQ H (Same.refl H)
    | @odd a y z h e =>
      refine ⟨_, _, rfl, .inr ⟨a, _, rfl, h, ?_⟩⟩
      walk_at "rd"
      refine iteF' rfl ?_
      walk_at "rd"
      refine rd_ixT h rfl ?_
      walk_at "rd"
      refine ⟨k, _, _, rfl, k9, e, fun H1 S1 => ?_⟩
      walk_at "rd"
      exact hQ H1 S1
    | @two a y z b h e r =>
      refine ⟨_, _, rfl, .inr ⟨a, _, rfl, h, ?_⟩⟩
      walk_at "rd"
      refine iteF' rfl ?_
      walk_at "rd"
      refine rd_ixT h rfl ?_
      walk_at "rd"
      refine ⟨k, _, _, rfl, k9, e, fun H1 S1 => ?_⟩
      walk_at "rd"
      refine rd_ixT (h.same S1) rfl ?_
      walk_at "rd"
      refine ⟨k, 5, _, _, rfl, by omega, by omega, r.same S1, fun H2 S2 => ?_⟩
      exact hQ H2 (S1.trans S2)
end
end K65

namespace K65
open PySem PySem.Spec PyProof.Rows L2 KX
local macro_rules | `(tactic| walk_at "rd1") => `(tactic| first
  | with_reducible refine rd_seq ?_
  | with_reducible refine rd_for ?_
  | with_reducible refine rd_lc ?_
  | with_reducible refine rd_asg ?_
  | ((with_reducible refine' rd_var ?rdv ?_); (case rdv => exact rfl))
  | with_reducible refine rd_c ?_
  | with_reducible refine rd_op ?_
  | with_reducible refine rd_un ?_
  | with_reducible refine rd_cons ?_
  | with_reducible refine rd_nil ?_
  | with_reducible refine rd_call ?_
  | with_reducible refine rd_cb ?_
  | with_reducible refine rd_tB ?_
  | with_reducible refine rd_test ?_
  | with_reducible refine rd_bl ?_
  | with_reducible refine rd_rI0 ?_
  | with_reducible refine rd_eqI ?_
  | with_reducible refine rd_neI ?_
  | with_reducible refine rd_rU ?_
  | with_reducible refine rd_name ?_
  | with_reducible refine rd_ifs ?_
  | with_reducible refine rd_and ?_
  | with_reducible refine rd_or ?_
  | with_reducible refine rd_not ?_
  | with_reducible refine rd_yes ?_
  | with_reducible refine rd_andV ?_
  | with_reducible refine rd_orV ?_
  | with_reducible refine rd_notV ?_
  | with_reducible refine rd_if ?_
  | with_reducible refine rd_isN ?_
  | with_reducible refine rd_iT ?_
  | with_reducible refine rd_iF ?_
  | with_reducible refine rd_ret ?_
  | with_reducible refine rd_retN ?_
  | with_reducible refine rd_drop ?_
  | with_reducible refine rd_next ?_
  | with_reducible refine rd_cont ?_
  | with_reducible refine rd_brk ?_
  | with_reducible refine rd_nx ?_
  | with_reducible refine rd_rt ?_
  | with_reducible refine rd_ct ?_
  | with_reducible refine rd_bk ?_
  | with_reducible refine rd_par ?_
  | with_reducible refine rd_par3 ?_
  | with_reducible refine rd_par2 ?_
  | with_reducible refine rd_par33 ?_
  | with_reducible refine rd_gcons ?_
  | with_reducible refine rd_gnil ?_
  | with_reducible refine rd_sub ?_
  | with_reducible refine rd_tup ?_
  | with_reducible refine rd_lst ?_
  | ((with_reducible refine rd_tupT ?hl ?_); (case hl => exact Nat.le_of_ble_eq_true rfl))
  | ((with_reducible refine rd_lstT ?hl ?_); (case hl => exact Nat.le_of_ble_eq_true rfl))
  | with_reducible refine rd_bm ?_
  | with_reducible refine rd_bm0 ?_
  | with_reducible refine rd_sl ?_
  | with_reducible refine rd_noP ?_
  | with_reducible refine rd_part ?_
  | with_reducible refine rd_int ?_
  | with_reducible refine rd_int1 ?_
  | with_reducible refine rd_fld ?_
  | with_reducible refine rd_then ?_
  | with_reducible refine rd_raise ?_
  | with_reducible refine rd_one ?_
  | with_reducible refine rd_sfld ?_
  | with_reducible refine rd_ilist ?_
  | with_reducible refine rd_itup ?_
  | with_reducible refine rd_rng1 ?_
  | with_reducible refine rd_enum ?_
  | with_reducible refine rd_enumT ?_)
local macro_rules | `(tactic| walk_at "rd") => `(tactic| repeat (walk_at "rd1"))
def wl (W : List (List Int)) (ms : List Int) (e : Int × Int) : Int := at2 W (modeAt ms e.1) (modeAt ms e.2)
def wv (S : List (List Int)) (v : Int × List Int) : Int := at2 S (v.2.length : Nat) v.1
def wt (W S : List (List Int)) (ms : List Int) (L : List (Int × Int)) : Int := (L.map (wl W ms)).sum + ((viewsOf ms L).map (wv S)).sum
def eff (W S : List (List Int)) (m : Int) (ns : List Int) (to : Int) : Int := (ns.map fun o => at2 W to o - at2 W m o).sum + at2 S (ns.length : Nat) to - at2 S (ns.length : Nat) m
def lowS (S : List (List Int)) (v : Int × List Int) : Int := leastI (rowOf S (v.2.length : Nat))
def roomI (W S : List (List Int)) (ms : List Int) (L : List (Int × Int)) : Int := wt W S ms L - (L.length : Nat) * leastI (W.map leastI) - ((viewsOf ms L).map (lowS S)).sum
def Bd (x : Int) : Prop := -1000000 ≤ x ∧ x ≤ 1000000
structure Wg (k : Nat) (W S : List (List Int)) : Prop where
  lW : W.length = k
  rW : ∀ r ∈ W, r.length = k
  sy : ∀ a b : Int, 0 ≤ a → a < k → 0 ≤ b → b < k → at2 W a b = at2 W b a
  lS : S.length = 5
  rS : ∀ r ∈ S, r.length = k
  k1 : 1 ≤ k
  k4 : k ≤ 4
  bW : ∀ r ∈ W, ∀ x ∈ r, Bd x
  bS : ∀ r ∈ S, ∀ x ∈ r, Bd x
def WtAt (H : Hp) (t : Addr) (W S : List (List Int)) : Prop := ∃ u v, Tup H t [.ref u, .ref v] ∧ TabAt H u W ∧ TabAt H v S
theorem WtAt.same {H H' : Hp} {t : Addr} {W S : List (List Int)} (h : WtAt H t W S) (s : Same H H') : WtAt H' t W S := by
  obtain ⟨u, v, a, b, c⟩ := h
  exact ⟨u, v, a.same s, b.same s, c.same s⟩
theorem view_ok {ms : List Int} {L : List (Int × Int)} {k : Int} (nw : Nw ms L) (mk : ∀ m ∈ ms, m < k) {v : Int × List Int} (h : v ∈ viewsOf ms L) : 0 ≤ v.1 ∧ v.1 < k ∧ v.2.length ≤ 4 ∧ ∀ x ∈ v.2, 0 ≤ x ∧ x < k := by
  unfold viewsOf at h
  obtain ⟨i, hi, rfl⟩ := List.mem_map.mp h
  have hi := List.mem_range.mp hi
  have m1 : modeAt ms ((i : Nat) : Int) ∈ ms := modeAt_mem (by omega) (by omega)
  refine ⟨(nw.mb _ m1).1, mk _ m1, ?_, fun x hx => ?_⟩
  · show (sortI ((nb L ((i : Nat) : Int)).map (modeAt ms))).length ≤ 4
    rw [(sortI_perm _).length_eq, List.length_map]
    exact nb_deg nw.g _
  · have hx := (sortI_perm _).mem_iff.mp hx
    obtain ⟨y, hy, rfl⟩ := List.mem_map.mp hx
    obtain ⟨y0, y1⟩ := nb_rng nw.g hy
    have m2 : modeAt ms y ∈ ms := modeAt_mem y0 y1
    exact ⟨(nw.mb _ m2).1, mk _ m2⟩
theorem link_ok {ms : List Int} {L : List (Int × Int)} {k : Int} (nw : Nw ms L) (mk : ∀ m ∈ ms, m < k) {e : Int × Int} (h : e ∈ L) : 0 ≤ e.1 ∧ e.1 < ms.length ∧ 0 ≤ e.2 ∧ e.2 < ms.length ∧ 0 ≤ modeAt ms e.1 ∧ modeAt ms e.1 < k ∧ 0 ≤ modeAt ms e.2 ∧ modeAt ms e.2 < k := by
  obtain ⟨a, b, c⟩ := nw.g.rng e h
  have m1 : modeAt ms e.1 ∈ ms := modeAt_mem (by omega) (by omega)
  have m2 : modeAt ms e.2 ∈ ms := modeAt_mem (by omega) (by omega)
  exact ⟨by omega, by omega, by omega, by omega, (nw.mb _ m1).1, mk _ m1, (nw.mb _ m2).1, mk _ m2⟩
theorem Wg.rowW {k : Nat} {W S : List (List Int)} (g : Wg k W S) {a : Int} (h0 : 0 ≤ a) (h1 : a < k) : (rowOf W a).length = k := g.rW _ (rowOf_mem' h0 (by rw [g.lW]; exact h1))
theorem Wg.rowS {k : Nat} {W S : List (List Int)} (g : Wg k W S) {a : Int} (h0 : 0 ≤ a) (h1 : a < 5) : (rowOf S a).length = k := g.rS _ (rowOf_mem' h0 (by rw [g.lS]; exact h1))
def spWeight (K : PySem.W.Frag) (C : Addr) : L2.Sp := fun vs H Q _ => ∃ (t p : Addr) (k : Nat) (W S : List (List Int)) (ms : List Int) (L : List (Int × Int)), vs = [.ref t, .ref p] ∧ WtAt H t W S ∧ Wg k W S ∧ NetL C H p ms L ∧ Nw ms L ∧ (∀ m ∈ ms, m < (k : Nat)) ∧
  ∀ H', Same H H' → Q (.int (wt W S ms L)) H'
def spRoom (K : PySem.W.Frag) (C : Addr) : L2.Sp := fun vs H Q _ => ∃ (t p : Addr) (k : Nat) (W S : List (List Int)) (ms : List Int) (L : List (Int × Int)), vs = [.ref t, .ref p] ∧ WtAt H t W S ∧ Wg k W S ∧ NetL C H p ms L ∧ Nw ms L ∧ (∀ m ∈ ms, m < (k : Nat)) ∧
  ∀ H', Same H H' → Q (.int (roomI W S ms L)) H'
def spEffect : L2.Sp := fun vs H Q _ => ∃ (t c r : Addr) (k : Nat) (W S : List (List Int)) (m to : Int) (ns : List Int), vs = [.ref t, .ref c] ∧ WtAt H t W S ∧ Wg k W S ∧ Tup H c [.int m, .ref r, .int to] ∧ RowT H r ns ∧ ns.length ≤ 4 ∧
  0 ≤ m ∧ m < (k : Nat) ∧ 0 ≤ to ∧ to < (k : Nat) ∧ (∀ x ∈ ns, 0 ≤ x ∧ x < (k : Nat)) ∧ ∀ H', Same H H' → Q (.int (eff W S m ns to)) H'
section
variable {P : Program} {w : World} {K : PySem.W.Frag} {mg : Str → Option Value} {base : Heap} (T : TX K mg)
theorem G_weight : FnOk P w K mg base CX0 9 T.f_weight T.d_weight ["weighing", "network"] (spWeight K T.c_Network) := by
  refine T.F_weight.ok sc_weight (fun vs H Q E h => ?_) fun cdv A outer s H vs Q E hr h => ⟨_, (pss_cons (ps_asg (pv 0) (pg_tupK (K := K) (n := 2) (by rfl) (pgs_cons (pg_name (i := 2) sc_weight.nd rfl (.inr rfl)) (pgs_cons (pg_name (i := 3) sc_weight.nd rfl (.inr rfl)) pgs_nil)))) (pss_cons (ps_set (i := 4) sc_weight.nd rfl (.inr rfl) (pe_fldK (K := K) (pv 1))) (pss_cons (ps_set (i := 5) sc_weight.nd rfl (.inl rfl) (pe_callB (cr_sumK (K := K) rfl) (by rfl) T.n_sum (by decide +kernel) (by exact (pa_cons (by exact (pe_lc (own := [("one", 6), ("other", 7)]) (by rfl) sc_weight.nd (pi_tupK (K := K) (pe_fldK (K := K) (pv 1))) (blkOk_by (own := [("one", 6), ("other", 7)]) (N := N_weight) (sc := defScope s_weight) (by decide +kernel)) (fun _ _ _ _ _ => (pg_tupK (K := K) (n := 2) (by rfl) (pgs_cons (pg_name (i := 6) sc_weight.nd rfl (.inl rfl)) (pgs_cons (pg_name (i := 7) sc_weight.nd rfl (.inl rfl)) pgs_nil)))) (fun _ _ _ _ _ => pts_nil) (fun _ _ _ _ _ => (pe_ix (ix_tupK (K := K)) (pe_ix (ix_tupK (K := K)) (pv 2) (pe_ix (ix_tupK (K := K)) (pv 4) (pv 6) (fun _ _ => rfl)) (fun _ _ => rfl)) (pe_ix (ix_tupK (K := K)) (pv 4) (pv 7) (fun _ _ => rfl)) (fun _ _ => rfl))) )) pa_nil)))) (pss_one (ps_ret (pe_op op_add (pv 5) (pe_callB (cr_sumK (K := K) rfl) (by rfl) T.n_sum (by decide +kernel) (by exact (pa_cons (by exact (pe_lc (own := [("view", 8)]) (by rfl) sc_weight.nd (pi_tupK (K := K) (pe_meth0 (pv 1) T.C_Network T.H_Network_site_views (G_Network_site_views T) (hr.mono (by decide)) T.b_Network_site_views .nil passL)) (blkOk_by (own := [("view", 8)]) (N := N_weight) (sc := defScope s_weight) (by decide +kernel)) (fun _ _ _ _ _ => (pg_name (i := 8) sc_weight.nd rfl (.inl rfl))) (fun _ _ _ _ _ => pts_nil) (fun _ _ _ _ _ => (pe_ix (ix_tupK (K := K)) (pe_ix (ix_tupK (K := K)) (pv 3) (pe_callB (cr_lenK (K := K)) (by rfl) T.n_len (by decide +kernel) (by exact (pa_cons (pe_ix (ix_tupK (K := K)) (pv 8) pe_int (fun _ _ => rfl)) pa_nil))) (fun _ _ => rfl)) (pe_ix (ix_tupK (K := K)) (pv 8) pe_int (fun _ _ => rfl)) (fun _ _ => rfl))) )) pa_nil))))))))), ?_⟩
  · obtain ⟨t, p, k, W, S, ms, L, rfl, _⟩ := h
    rfl
  · obtain ⟨t, p, k, W, S, ms, L, rfl, hw, g, hN, nw, mk, hQ⟩ := h
    obtain ⟨u, v, ht, hu, hv⟩ := hw
    obtain ⟨dx, pm, pn, pl, qs, ps, hp, hm, _, _, hl, pL⟩ := hN.ob
    have lL := nw.lL
    have lp := paired_len pL
    walk_at "rd"
    refine rd_gtup ht rfl ?_
    walk_at "rd"
    refine ⟨p, _, dx, _, _, rfl, hp, T.C_Network, T.A_Network_modes, look_modes, ?_⟩
    walk_at "rd"
    refine ⟨p, _, dx, _, _, rfl, hp, T.C_Network, T.A_Network_links, look_links, ?_⟩
    walk_at "rd"
    refine ⟨pl, rfl, ⟨_, SqT.of hl⟩, fun D hD => ?_⟩
    refine lcv_tup (xs := ps.map V.ref) ((L.map (wl W ms)).map V.int) (Tup.of hl) (by rw [List.length_map, List.length_map, List.length_map, lp]) (by rw [List.length_map, List.length_map]; omega) hD (fun i x z H1 hx hz S1 R hR => ?_) (fun H1 S1 hD1 => ?_)
    · rw [List.map_map, List.getElem?_map] at hz
      obtain ⟨e, he, rfl⟩ := Option.map_eq_some_iff.mp hz
      rw [List.getElem?_map] at hx
      obtain ⟨q, hq, rfl⟩ := Option.map_eq_some_iff.mp hx
      obtain ⟨e', he', hqe⟩ := paired_get pL hq
      rw [he] at he'
      cases he'
      obtain ⟨a0, a1, b0, b1, c0, c1, d0, d1⟩ := link_ok nw mk (List.mem_of_getElem? he)
      refine rd_gtup (Tup.of (S1 _ _ hqe)) rfl ?_
      walk_at "rd"
      refine ⟨rfl, ?_⟩
      walk_at "rd"
      refine rd_ixT (hm.same S1) (modeAt_get a0 a1) ?_
      refine rd_at2 (hu.same S1) c0 (by rw [g.lW]; exact c1) fun r hr => ?_
      walk_at "rd"
      refine rd_ixT (hm.same S1) (modeAt_get b0 b1) ?_
      refine rd_rowAt hr d0 (by rw [g.rowW c0 c1]; exact d1) ?_
      exact hR H1 (Same.refl _)
    · walk_at "rd"
      refine rd_sum hD1 ?_
      walk_at "rd"
      have N1 := net_same hN S1
      refine rd_meth ?_
      walk_at "rd"
      refine rd_netm (m := "site_views") N1 (by decide +kernel) (by decide +kernel) (by decide +kernel) ?_
      walk_at "rd"
      refine ⟨p, ms, L, rfl, N1, nw.g, nw.mb, nw.ml, fun H2 t2 vs2 S2 ht2 pv2 => ?_⟩
      have S12 := S1.trans S2
      have lv := paired_len pv2
      have lv' : (viewsOf ms L).length < 1000 := by
        unfold viewsOf
        rw [List.length_map, List.length_range]; exact nw.ml
      refine ⟨t2, rfl, ⟨_, SqT.of ht2⟩, fun D2 hD2 => ?_⟩
      refine lcv_tup (xs := vs2.map V.ref) (((viewsOf ms L).map (wv S)).map V.int) (Tup.of ht2) (by rw [List.length_map, List.length_map, List.length_map, lv]) (by rw [List.length_map, List.length_map]; omega) hD2 (fun i x z H3 hx hz S3 R hR => ?_) (fun H3 S3 hD3 => ?_)
      · rw [List.map_map, List.getElem?_map] at hz
        obtain ⟨e, he, rfl⟩ := Option.map_eq_some_iff.mp hz
        rw [List.getElem?_map] at hx
        obtain ⟨q, hq, rfl⟩ := Option.map_eq_some_iff.mp hx
        obtain ⟨e', he', hqe⟩ := paired_get pv2 hq
        rw [he] at he'
        cases he'
        obtain ⟨r, h1, h2⟩ := hqe.same S3
        obtain ⟨a0, a1, b0, b1⟩ := view_ok nw mk (List.mem_of_getElem? he)
        walk_at "rd"
        refine ⟨rfl, ?_⟩
        walk_at "rd"
        refine rd_ixT (Tup.of h1) rfl ?_
        walk_at "rd"
        refine rd_lenTup (Tup.of h2) ?_
        rw [List.length_map]
        refine rd_at2 ((hv.same S12).same S3) (by omega) (by rw [g.lS]; omega) fun r2 hr2 => ?_
        walk_at "rd"
        refine rd_ixT (Tup.of h1) rfl ?_
        refine rd_rowAt hr2 a0 (by rw [g.rowS (by omega) (by omega)]; exact a1) ?_
        exact hR H3 (Same.refl _)
      · walk_at "rd"
        refine rd_sum hD3 ?_
        walk_at "rd"
        exact hQ H3 (S12.trans S3)
theorem G_effect : FnOk P w K mg base CX0 1 T.f_effect T.d_effect ["weighing", "change"] spEffect := by
  refine T.F_effect.ok sc_effect (fun vs H Q E h => ?_) fun cdv A outer s H vs Q E hr h => ⟨_, (pss_cons (ps_asg (pv 0) (pg_tupK (K := K) (n := 2) (by rfl) (pgs_cons (pg_name (i := 2) sc_effect.nd rfl (.inr rfl)) (pgs_cons (pg_name (i := 3) sc_effect.nd rfl (.inl rfl)) pgs_nil)))) (pss_cons (ps_asg (pv 1) (pg_tupK (K := K) (n := 3) (by rfl) (pgs_cons (pg_name (i := 4) sc_effect.nd rfl (.inr rfl)) (pgs_cons (pg_name (i := 5) sc_effect.nd rfl (.inl rfl)) (pgs_cons (pg_name (i := 6) sc_effect.nd rfl (.inr rfl)) pgs_nil))))) (pss_cons (ps_set (i := 7) sc_effect.nd rfl (.inl rfl) (pe_callB (cr_sumK (K := K) rfl) (by rfl) T.n_sum (by decide +kernel) (by exact (pa_cons (by exact (pe_lc (own := [("other", 8)]) (by rfl) sc_effect.nd (pi_tupK (K := K) (pv 5)) (blkOk_by (own := [("other", 8)]) (N := N_effect) (sc := defScope s_effect) (by decide +kernel)) (fun _ _ _ _ _ => (pg_name (i := 8) sc_effect.nd rfl (.inl rfl))) (fun _ _ _ _ _ => pts_nil) (fun _ _ _ _ _ => (pe_op op_sub (pe_ix (ix_tupK (K := K)) (pe_ix (ix_tupK (K := K)) (pv 2) (pv 6) (fun _ _ => rfl)) (pv 8) (fun _ _ => rfl)) (pe_ix (ix_tupK (K := K)) (pe_ix (ix_tupK (K := K)) (pv 2) (pv 4) (fun _ _ => rfl)) (pv 8) (fun _ _ => rfl)))) )) pa_nil)))) (pss_one (ps_ret (pe_op op_sub (pe_op op_add (pv 7) (pe_ix (ix_tupK (K := K)) (pe_ix (ix_tupK (K := K)) (pv 3) (pe_callB (cr_lenK (K := K)) (by rfl) T.n_len (by decide +kernel) (by exact (pa_cons (pv 5) pa_nil))) (fun _ _ => rfl)) (pv 6) (fun _ _ => rfl))) (pe_ix (ix_tupK (K := K)) (pe_ix (ix_tupK (K := K)) (pv 3) (pe_callB (cr_lenK (K := K)) (by rfl) T.n_len (by decide +kernel) (by exact (pa_cons (pv 5) pa_nil))) (fun _ _ => rfl)) (pv 4) (fun _ _ => rfl)))))))), ?_⟩
  · obtain ⟨t, c, r, k, W, S, m, to, ns, rfl, _⟩ := h
    rfl
  · obtain ⟨t, c, r, k, W, S, m, to, ns, rfl, hw, g, hc, hr, ln, m0, m1, t0, t1, hns, hQ⟩ := h
    obtain ⟨u, v, ht, hu, hv⟩ := hw
    walk_at "rd"
    refine rd_gtup ht rfl ?_
    walk_at "rd"
    refine rd_gtup hc rfl ?_
    walk_at "rd"
    refine ⟨r, rfl, ⟨_, hr.sq⟩, fun D hD => ?_⟩
    refine lcv_tup (xs := ns.map V.int) ((ns.map fun o => at2 W to o - at2 W m o).map V.int) hr (by rw [List.length_map, List.length_map, List.length_map]) (by rw [List.length_map, List.length_map]; omega) hD (fun i x z H1 hx hz S1 R hR => ?_) (fun H1 S1 hD1 => ?_)
    · rw [List.map_map, List.getElem?_map] at hz
      obtain ⟨e, he, rfl⟩ := Option.map_eq_some_iff.mp hz
      rw [List.getElem?_map, he] at hx
      cases hx
      obtain ⟨a0, a1⟩ := hns e (List.mem_of_getElem? he)
      walk_at "rd"
      refine ⟨rfl, ?_⟩
      walk_at "rd"
      refine rd_at2 (hu.same S1) t0 (by rw [g.lW]; exact t1) fun r1 hr1 => ?_
      walk_at "rd"
      refine rd_rowAt hr1 a0 (by rw [g.rowW t0 t1]; exact a1) ?_
      walk_at "rd"
      refine rd_at2 (hu.same S1) m0 (by rw [g.lW]; exact m1) fun r2 hr2 => ?_
      walk_at "rd"
      refine rd_rowAt hr2 a0 (by rw [g.rowW m0 m1]; exact a1) ?_
      walk_at "rd"
      exact hR H1 (Same.refl _)
    · walk_at "rd"
      refine rd_sum hD1 ?_
      walk_at "rd"
      refine rd_lenTup (hr.same S1) ?_
      rw [List.length_map]
      refine rd_at2 (hv.same S1) (by omega) (by rw [g.lS]; omega) fun r1 hr1 => ?_
      walk_at "rd"
      refine rd_rowAt hr1 t0 (by rw [g.rowS (by omega) (by omega)]; exact t1) ?_
      walk_at "rd"
      refine rd_lenTup (hr.same S1) ?_
      rw [List.length_map]
      refine rd_at2 (hv.same S1) (by omega) (by rw [g.lS]; omega) fun r2 hr2 => ?_
      walk_at "rd"
      refine rd_rowAt hr2 m0 (by rw [g.rowS (by omega) (by omega)]; exact m1) ?_
      walk_at "rd"
      exact hQ H1 S1
theorem TabAt.lows {H : Hp} {t : Addr} {W : List (List Int)} (h : TabAt H t W) : ∃ qs : List Addr, Tup H t (qs.map V.ref) ∧ Paired (RowT H) qs W := h
theorem G_room : FnOk P w K mg base CX0 10 T.f_room T.d_room ["weighing", "network"] (spRoom K T.c_Network) := by
  refine T.F_room.ok sc_room (fun vs H Q E h => ?_) fun cdv A outer s H vs Q E hr h => ⟨_, (pss_cons (ps_asg (pv 0) (pg_tupK (K := K) (n := 2) (by rfl) (pgs_cons (pg_name (i := 2) sc_room.nd rfl (.inl rfl)) (pgs_cons (pg_name (i := 3) sc_room.nd rfl (.inr rfl)) pgs_nil)))) (pss_cons (ps_set (i := 4) sc_room.nd rfl (.inl rfl) (pe_op op_mul (pe_callB (cr_lenK (K := K)) (by rfl) T.n_len (by decide +kernel) (by exact (pa_cons (pe_fldK (K := K) (pv 1)) pa_nil))) (pe_callB (cr_minK (K := K) rfl) (by rfl) T.n_min (by decide +kernel) (by exact (pa_cons (by exact (pe_lc (own := [("row", 5)]) (by rfl) sc_room.nd (pi_tupK (K := K) (pv 2)) (blkOk_by (own := [("row", 5)]) (N := N_room) (sc := defScope s_room) (by decide +kernel)) (fun _ _ _ _ _ => (pg_name (i := 5) sc_room.nd rfl (.inl rfl))) (fun _ _ _ _ _ => pts_nil) (fun _ _ _ _ _ => (pe_callB (cr_minTK (K := K) rfl hr.units) (by rfl) T.n_min (by decide +kernel) (by exact (pa_cons (pv 5) pa_nil)))) )) pa_nil))))) (pss_one (ps_ret (pe_op op_sub (pe_op op_sub (pe_call (G_weight T) (hr.mono (by decide)) (by rfl) T.m_weight T.F_weight.kp T.b_weight .nil pass0 (by exact (pa_cons (pv 0) (pa_cons (pv 1) pa_nil)))) (pv 4)) (pe_callB (cr_sumK (K := K) rfl) (by rfl) T.n_sum (by decide +kernel) (by exact (pa_cons (by exact (pe_lc (own := [("view", 6)]) (by rfl) sc_room.nd (pi_tupK (K := K) (pe_meth0 (pv 1) T.C_Network T.H_Network_site_views (G_Network_site_views T) (hr.mono (by decide)) T.b_Network_site_views .nil passL)) (blkOk_by (own := [("view", 6)]) (N := N_room) (sc := defScope s_room) (by decide +kernel)) (fun _ _ _ _ _ => (pg_name (i := 6) sc_room.nd rfl (.inl rfl))) (fun _ _ _ _ _ => pts_nil) (fun _ _ _ _ _ => (pe_callB (cr_minTK (K := K) rfl hr.units) (by rfl) T.n_min (by decide +kernel) (by exact (pa_cons (pe_ix (ix_tupK (K := K)) (pv 3) (pe_callB (cr_lenK (K := K)) (by rfl) T.n_len (by decide +kernel) (by exact (pa_cons (pe_ix (ix_tupK (K := K)) (pv 6) pe_int (fun _ _ => rfl)) pa_nil))) (fun _ _ => rfl)) pa_nil)))) )) pa_nil)))))))), ?_⟩
  · obtain ⟨t, p, k, W, S, ms, L, rfl, _⟩ := h
    rfl
  · obtain ⟨t, p, k, W, S, ms, L, rfl, hw, g, hN, nw, mk, hQ⟩ := h
    have hw0 := hw
    obtain ⟨u, v, ht, hu, hv⟩ := hw
    obtain ⟨dx, pm, pn, pl, qs, ps, hp, hm, _, _, hl, pL⟩ := hN.ob
    obtain ⟨rs, hrs, pW⟩ := id hu
    have lL := nw.lL
    have lp := paired_len pL
    have lW := g.lW
    have lrs := paired_len pW
    have k1 := g.k1
    have k4 := g.k4
    walk_at "rd"
    refine rd_gtup ht rfl ?_
    walk_at "rd"
    refine ⟨p, _, dx, _, _, rfl, hp, T.C_Network, T.A_Network_links, look_links, ?_⟩
    walk_at "rd"
    refine rd_lenTup (Tup.of hl) ?_
    rw [List.length_map]
    walk_at "rd"
    refine ⟨u, rfl, ⟨_, hrs.sq⟩, fun D hD => ?_⟩
    refine lcv_tup (xs := rs.map V.ref) ((W.map leastI).map V.int) hrs (by rw [List.length_map, List.length_map, List.length_map, lrs]) (by rw [List.length_map, List.length_map]; omega) hD (fun i x z H1 hx hz S1 R hR => ?_) (fun H1 S1 hD1 => ?_)
    · rw [List.map_map, List.getElem?_map] at hz
      obtain ⟨e, he, rfl⟩ := Option.map_eq_some_iff.mp hz
      rw [List.getElem?_map] at hx
      obtain ⟨q, hq, rfl⟩ := Option.map_eq_some_iff.mp hx
      obtain ⟨e', he', hqe⟩ := paired_get pW hq
      rw [he] at he'
      cases he'
      have le := g.rW e (List.mem_of_getElem? he)
      walk_at "rd"
      refine ⟨rfl, ?_⟩
      walk_at "rd"
      refine rd_minT (rowT_same hqe S1) (by omega) ?_
      exact hR H1 (Same.refl _)
    · walk_at "rd"
      refine rd_min hD1 (by rw [List.length_map]; omega) ?_
      walk_at "rd"
      refine rd_rI (.inl ⟨by omega, by omega⟩) ?_
      walk_at "rd"
      have N1 := net_same hN S1
      refine ⟨t, p, k, W, S, ms, L, rfl, hw0.same S1, g, N1, nw, mk, fun H2 S2 => ?_⟩
      walk_at "rd"
      have S12 := S1.trans S2
      have N2 := net_same hN S12
      refine rd_meth ?_
      walk_at "rd"
      refine rd_netm (m := "site_views") N2 (by decide +kernel) (by decide +kernel) (by decide +kernel) ?_
      walk_at "rd"
      refine ⟨p, ms, L, rfl, N2, nw.g, nw.mb, nw.ml, fun H3 t3 vs2 S3 ht3 pv2 => ?_⟩
      have S13 := S12.trans S3
      have lv := paired_len pv2
      have lv' : (viewsOf ms L).length < 1000 := by
        unfold viewsOf
        rw [List.length_map, List.length_range]; exact nw.ml
      refine ⟨t3, rfl, ⟨_, SqT.of ht3⟩, fun D2 hD2 => ?_⟩
      refine lcv_tup (xs := vs2.map V.ref) (((viewsOf ms L).map (lowS S)).map V.int) (Tup.of ht3) (by rw [List.length_map, List.length_map, List.length_map, lv]) (by rw [List.length_map, List.length_map]; omega) hD2 (fun i x z H4 hx hz S4 R hR => ?_) (fun H4 S4 hD4 => ?_)
      · rw [List.map_map, List.getElem?_map] at hz
        obtain ⟨e, he, rfl⟩ := Option.map_eq_some_iff.mp hz
        rw [List.getElem?_map] at hx
        obtain ⟨q, hq, rfl⟩ := Option.map_eq_some_iff.mp hx
        obtain ⟨e', he', hqe⟩ := paired_get pv2 hq
        rw [he] at he'
        cases he'
        obtain ⟨r, h1, h2⟩ := hqe.same S4
        obtain ⟨a0, a1, b0, b1⟩ := view_ok nw mk (List.mem_of_getElem? he)
        walk_at "rd"
        refine ⟨rfl, ?_⟩
        walk_at "rd"
        refine rd_ixT (Tup.of h1) rfl ?_
        walk_at "rd"
        refine rd_lenTup (Tup.of h2) ?_
        rw [List.length_map]
        refine rd_at2 ((hv.same S13).same S4) (by omega) (by rw [g.lS]; omega) fun r2 hr2 => ?_
        walk_at "rd"
        refine rd_minT hr2 (by rw [g.rowS (by omega) (by omega)]; omega) ?_
        exact hR H4 (Same.refl _)
      · walk_at "rd"
        refine rd_sum hD4 ?_
        walk_at "rd"
        have q := hQ H4 (S13.trans S4)
        unfold roomI at q
        rw [← lp] at q
        exact q
end
end K65

namespace K65
open PySem PySem.Spec PyProof.Rows L2 KX
/-! ### what a change of one site adds -/
def setM (ms : List Int) (i : Int) (to : Int) : List Int := ms.set i.toNat to
theorem setM_len (ms : List Int) (i to : Int) : (setM ms i to).length = ms.length := List.length_set
theorem modeAt_set {ms : List Int} {i to j : Int} (h0 : 0 ≤ i) (h1 : i < ms.length) (j0 : 0 ≤ j) : modeAt (setM ms i to) j = if j = i then to else modeAt ms j := by
  unfold modeAt setM
  rw [List.getD_eq_getElem?_getD, List.getElem?_set]
  by_cases h : j = i
  · rw [if_pos h, if_pos (by rw [h]), if_pos (by omega)]; rfl
  · rw [if_neg h, if_neg (by omega), ← List.getD_eq_getElem?_getD]
theorem sum_sub_map {α : Type} (f g h : α → Int) : ∀ l : List α, (∀ x ∈ l, f x - g x = h x) → (l.map f).sum - (l.map g).sum = (l.map h).sum
  | [], _ => rfl
  | x :: l, H => by
    have ih := sum_sub_map f g h l fun y hy => H y (List.mem_cons_of_mem _ hy)
    have hx := H x List.mem_cons_self
    simp only [List.map_cons, List.sum_cons]
    omega
/-- the links of a site, in the order of the links -/
theorem sum_nb (d : Int → Int) (s : Int) : ∀ L : List (Int × Int), (L.map fun e => if e.1 = s then d e.2 else if e.2 = s then d e.1 else 0).sum = ((nb L s).map d).sum
  | [] => rfl
  | e :: L => by
    have ih := sum_nb d s L
    have hn : nb (e :: L) s = nb [e] s ++ nb L s := by rw [← nb_append]; rfl
    obtain ⟨x, y⟩ := e
    rw [hn, nb_one, List.map_cons, List.sum_cons, List.map_append, List.sum_append, ← ih]
    by_cases h1 : x = s
    · simp [h1]
    · by_cases h2 : y = s
      · simp [h1, h2]
      · simp [h1, h2]
theorem links_add {k : Nat} {W S : List (List Int)} {ms : List Int} {L : List (Int × Int)} {s to : Int} (g : Wg k W S) (nw : Nw ms L) (mk : ∀ m ∈ ms, m < (k : Nat)) (s0 : 0 ≤ s) (s1 : s < ms.length) (t0 : 0 ≤ to) (t1 : to < (k : Nat)) :
    (L.map (wl W (setM ms s to))).sum - (L.map (wl W ms)).sum = ((nb L s).map fun o => at2 W to (modeAt ms o) - at2 W (modeAt ms s) (modeAt ms o)).sum := by
  rw [← sum_nb]
  refine sum_sub_map _ _ _ L fun e he => ?_
  obtain ⟨a0, a1, b0, b1, c0, c1, d0, d1⟩ := link_ok nw mk he
  have ne := (nw.g.rng e he).2.1
  unfold wl
  rw [modeAt_set s0 s1 a0, modeAt_set s0 s1 b0]
  by_cases h1 : e.1 = s
  · rw [if_pos h1, if_pos h1, if_neg (by omega), h1]
  · rw [if_neg h1, if_neg h1]
    by_cases h2 : e.2 = s
    · rw [if_pos h2, if_pos h2, h2]
      rw [h2] at d0 d1
      rw [g.sy _ _ c0 c1 t0 t1, g.sy _ _ c0 c1 d0 d1]
    · rw [if_neg h2, if_neg h2]
      omega
theorem viewOf_len (ms : List Int) (L : List (Int × Int)) (i : Int) : (viewOf ms L i).2.length = (nb L i).length := by
  show (sortI ((nb L i).map (modeAt ms))).length = _
  rw [(sortI_perm _).length_eq, List.length_map]
theorem sum_range_one (f g : Nat → Int) (s : Nat) : ∀ n : Nat, (∀ i, i ≠ s → f i = g i) → ((List.range n).map f).sum - ((List.range n).map g).sum = if s < n then f s - g s else 0
  | 0, _ => rfl
  | n + 1, h => by
    have ih := sum_range_one f g s n h
    rw [List.range_succ, List.map_append, List.map_append, List.sum_append, List.sum_append]
    simp only [List.map_cons, List.map_nil, List.sum_cons, List.sum_nil]
    by_cases c : s = n
    · subst c
      rw [if_neg (by omega)] at ih
      rw [if_pos (by omega)]
      omega
    · have e := h n (fun z => c z.symm)
      by_cases d : s < n
      · rw [if_pos d] at ih; rw [if_pos (by omega)]; omega
      · rw [if_neg d] at ih; rw [if_neg (by omega)]; omega
theorem views_add {S : List (List Int)} {ms : List Int} {L : List (Int × Int)} {s to : Int} (s0 : 0 ≤ s) (s1 : s < ms.length) :
    ((viewsOf (setM ms s to) L).map (wv S)).sum - ((viewsOf ms L).map (wv S)).sum = at2 S ((nb L s).length : Nat) to - at2 S ((nb L s).length : Nat) (modeAt ms s) := by
  unfold viewsOf
  rw [setM_len, List.map_map, List.map_map]
  obtain ⟨n, rfl⟩ := Int.eq_ofNat_of_zero_le s0
  have h := sum_range_one ((wv S) ∘ fun i => viewOf (setM ms (n : Nat) to) L ((i : Nat) : Int)) ((wv S) ∘ fun i => viewOf ms L ((i : Nat) : Int)) n ms.length fun i hi => by
    show wv S _ = wv S _
    unfold wv
    rw [viewOf_len, viewOf_len]
    show at2 S _ (modeAt (setM ms (n : Nat) to) ((i : Nat) : Int)) = at2 S _ (modeAt ms ((i : Nat) : Int))
    rw [modeAt_set s0 s1 (by omega), if_neg (by omega)]
  rw [h, if_pos (by omega)]
  show wv S _ - wv S _ = _
  unfold wv
  rw [viewOf_len, viewOf_len]
  show at2 S _ (modeAt (setM ms (n : Nat) to) ((n : Nat) : Int)) - at2 S _ (modeAt ms ((n : Nat) : Int)) = _
  rw [modeAt_set s0 s1 s0, if_pos rfl]
theorem perm_sum {l m : List Int} (h : l.Perm m) : l.sum = m.sum := by
  induction h with
  | nil => rfl
  | cons x _ ih => simp only [List.sum_cons, ih]
  | swap x y l => simp only [List.sum_cons]; omega
  | trans _ _ a b => exact a.trans b
theorem wt_add {k : Nat} {W S : List (List Int)} {ms : List Int} {L : List (Int × Int)} {s to : Int} (g : Wg k W S) (nw : Nw ms L) (mk : ∀ m ∈ ms, m < (k : Nat)) (s0 : 0 ≤ s) (s1 : s < ms.length) (t0 : 0 ≤ to) (t1 : to < (k : Nat)) :
    wt W S (setM ms s to) L - wt W S ms L = eff W S (viewOf ms L s).1 (viewOf ms L s).2 to := by
  have h1 := links_add (S := S) g nw mk s0 s1 t0 t1
  have h2 := views_add (S := S) (ms := ms) (L := L) (to := to) s0 s1
  have h3 : ((viewOf ms L s).2.map fun o => at2 W to o - at2 W (viewOf ms L s).1 o).sum = ((nb L s).map fun o => at2 W to (modeAt ms o) - at2 W (modeAt ms s) (modeAt ms o)).sum := by
    show ((sortI ((nb L s).map (modeAt ms))).map fun o => at2 W to o - at2 W (modeAt ms s) o).sum = _
    rw [perm_sum ((sortI_perm _).map _), List.map_map]
    rfl
  unfold wt eff
  rw [viewOf_len, h3, ← h1]
  show _ = _ + at2 S ((nb L s).length : Nat) to - at2 S ((nb L s).length : Nat) (modeAt ms s)
  omega
theorem setM_nw {ms : List Int} {L : List (Int × Int)} {s to : Int} (nw : Nw ms L) (t0 : 0 ≤ to) (t4 : to < 4) : Nw (setM ms s to) L := by
  refine ⟨by rw [setM_len]; exact nw.g, nw.srt, fun m hm => ?_, fun z => ?_, by rw [setM_len]; exact nw.ml⟩
  · unfold setM at hm
    rcases List.mem_or_eq_of_mem_set hm with h | h
    · exact nw.mb m h
    · omega
  · have h := congrArg List.length z
    rw [setM_len] at h
    exact nw.m0 (List.length_eq_zero_iff.mp h)
theorem setM_lt {ms : List Int} {k s to : Int} (mk : ∀ m ∈ ms, m < k) (t1 : to < k) : ∀ m ∈ setM ms s to, m < k := fun m hm => by
  unfold setM at hm
  rcases List.mem_or_eq_of_mem_set hm with h | h
  · exact mk m h
  · omega
/-! ### a site and its neighbours alone -/
def starL (n : Nat) : List (Int × Int) := (List.range n).map fun i => ((0 : Int), ((i : Nat) : Int) + 1)
theorem star_deg (n : Nat) (s : Int) : ((starL n).filter (inc s)).length ≤ (if s = 0 then n else 1) := by
  induction n with
  | zero => simp [starL]
  | succ n ih =>
    have e : starL (n + 1) = starL n ++ [((0 : Int), ((n : Nat) : Int) + 1)] := by unfold starL; rw [List.range_succ, List.map_append]; rfl
    rw [e, List.filter_append, List.length_append]
    by_cases h : s = 0
    · rw [if_pos h] at ih ⊢
      have : ([((0 : Int), ((n : Nat) : Int) + 1)].filter (inc s)).length ≤ 1 := List.length_filter_le _ _
      omega
    · rw [if_neg h] at ih ⊢
      by_cases c : s = ((n : Nat) : Int) + 1
      · have z : (starL n).filter (inc s) = [] := by
          refine List.filter_eq_nil_iff.mpr fun x hx => ?_
          unfold starL at hx
          obtain ⟨i, hi, rfl⟩ := List.mem_map.mp hx
          have := List.mem_range.mp hi
          simp only [inc, Bool.or_eq_true, decide_eq_true_eq]
          omega
        rw [z]
        have : ([((0 : Int), ((n : Nat) : Int) + 1)].filter (inc s)).length ≤ 1 := List.length_filter_le _ _
        simpa using this
      · have z : [((0 : Int), ((n : Nat) : Int) + 1)].filter (inc s) = [] := by
          refine List.filter_eq_nil_iff.mpr fun x hx => ?_
          rw [List.mem_singleton.mp hx]
          simp only [inc, Bool.or_eq_true, decide_eq_true_eq]
          omega
        rw [z]
        simpa using ih
theorem star_nw {n : Nat} {m : Int} {ns : List Int} (ln : ns.length = n) (n4 : n ≤ 4) (m0 : 0 ≤ m) (m4 : m < 4) (hns : ∀ x ∈ ns, 0 ≤ x ∧ x < 4) : Nw (m :: ns) (starL n) := by
  refine ⟨⟨fun e he => ?_, ?_, fun s => ?_⟩, ?_, fun x hx => ?_, by simp, by simp; omega⟩
  · unfold starL at he
    obtain ⟨i, hi, rfl⟩ := List.mem_map.mp he
    have := List.mem_range.mp hi
    simp only [List.length_cons]
    omega
  · unfold starL
    refine List.Pairwise.map _ ?_ (List.nodup_range (n := n))
    intro a b h z
    have := (Prod.mk.inj z).2
    omega
  · have := star_deg n s
    by_cases h : s = 0
    · rw [if_pos h] at this; omega
    · rw [if_neg h] at this; omega
  · unfold starL
    refine List.Pairwise.map _ ?_ (List.pairwise_lt_range (n := n))
    intro a b h
    show (0 : Int) < 0 ∨ (0 : Int) = 0 ∧ ((a : Nat) : Int) + 1 < ((b : Nat) : Int) + 1
    omega
  · rcases List.mem_cons.mp hx with h | h
    · omega
    · exact hns x h
theorem nb_star (n : Nat) : nb (starL n) 0 = (List.range n).map fun i => ((i : Nat) : Int) + 1 := by
  induction n with
  | zero => rfl
  | succ n ih =>
    have e : starL (n + 1) = starL n ++ [((0 : Int), ((n : Nat) : Int) + 1)] := by unfold starL; rw [List.range_succ, List.map_append]; rfl
    rw [e, nb_append, ih, nb_one, if_pos rfl, List.range_succ, List.map_append]
    rfl
theorem star_view {n : Nat} {m : Int} {ns : List Int} (ln : ns.length = n) (hs : ns.Pairwise (· ≤ ·)) : viewOf (m :: ns) (starL n) 0 = (m, ns) := by
  unfold viewOf
  have e : (nb (starL n) 0).map (modeAt (m :: ns)) = ns := by
    rw [nb_star, List.map_map]
    refine List.ext_getElem? fun i => ?_
    rw [List.getElem?_map]
    by_cases h : i < n
    · rw [List.getElem?_range h, List.getElem?_eq_getElem (by omega)]
      show some (modeAt (m :: ns) (((i : Nat) : Int) + 1)) = _
      unfold modeAt
      have : (((i : Nat) : Int) + 1).toNat = i + 1 := by omega
      rw [this, List.getD_eq_getElem?_getD, List.getElem?_cons_succ, List.getElem?_eq_getElem (by omega)]; rfl
    · rw [List.getElem?_eq_none (by rw [List.length_range]; omega), List.getElem?_eq_none (by omega)]; rfl
  rw [e, ← sortI_of (List.Perm.refl ns) hs]
  rfl
end K65

namespace K65
open PySem PySem.Spec PyProof.Rows L2 KX
local macro_rules | `(tactic| walk_at "rd1") => `(tactic| first
  | with_reducible refine rd_seq ?_
  | with_reducible refine rd_for ?_
  | with_reducible refine rd_lc ?_
  | with_reducible refine rd_asg ?_
  | ((with_reducible refine' rd_var ?rdv ?_); (case rdv => exact rfl))
  | with_reducible refine rd_c ?_
  | with_reducible refine rd_op ?_
  | with_reducible refine rd_un ?_
  | with_reducible refine rd_cons ?_
  | with_reducible refine rd_nil ?_
  | with_reducible refine rd_call ?_
  | with_reducible refine rd_cb ?_
  | with_reducible refine rd_tB ?_
  | with_reducible refine rd_test ?_
  | with_reducible refine rd_bl ?_
  | with_reducible refine rd_rI0 ?_
  | with_reducible refine rd_eqI ?_
  | with_reducible refine rd_neI ?_
  | with_reducible refine rd_rU ?_
  | with_reducible refine rd_name ?_
  | with_reducible refine rd_ifs ?_
  | with_reducible refine rd_and ?_
  | with_reducible refine rd_or ?_
  | with_reducible refine rd_not ?_
  | with_reducible refine rd_yes ?_
  | with_reducible refine rd_andV ?_
  | with_reducible refine rd_orV ?_
  | with_reducible refine rd_notV ?_
  | with_reducible refine rd_if ?_
  | with_reducible refine rd_isN ?_
  | with_reducible refine rd_iT ?_
  | with_reducible refine rd_iF ?_
  | with_reducible refine rd_ret ?_
  | with_reducible refine rd_retN ?_
  | with_reducible refine rd_drop ?_
  | with_reducible refine rd_next ?_
  | with_reducible refine rd_cont ?_
  | with_reducible refine rd_brk ?_
  | with_reducible refine rd_nx ?_
  | with_reducible refine rd_rt ?_
  | with_reducible refine rd_ct ?_
  | with_reducible refine rd_bk ?_
  | with_reducible refine rd_par ?_
  | with_reducible refine rd_par3 ?_
  | with_reducible refine rd_par2 ?_
  | with_reducible refine rd_par33 ?_
  | with_reducible refine rd_gcons ?_
  | with_reducible refine rd_gnil ?_
  | with_reducible refine rd_sub ?_
  | with_reducible refine rd_tup ?_
  | with_reducible refine rd_lst ?_
  | ((with_reducible refine rd_tupT ?hl ?_); (case hl => exact Nat.le_of_ble_eq_true rfl))
  | ((with_reducible refine rd_lstT ?hl ?_); (case hl => exact Nat.le_of_ble_eq_true rfl))
  | with_reducible refine rd_bm ?_
  | with_reducible refine rd_bm0 ?_
  | with_reducible refine rd_sl ?_
  | with_reducible refine rd_noP ?_
  | with_reducible refine rd_part ?_
  | with_reducible refine rd_int ?_
  | with_reducible refine rd_int1 ?_
  | with_reducible refine rd_fld ?_
  | with_reducible refine rd_then ?_
  | with_reducible refine rd_raise ?_
  | with_reducible refine rd_one ?_
  | with_reducible refine rd_sfld ?_
  | with_reducible refine rd_ilist ?_
  | with_reducible refine rd_itup ?_
  | with_reducible refine rd_rng1 ?_
  | with_reducible refine rd_enum ?_
  | with_reducible refine rd_enumT ?_)
local macro_rules | `(tactic| walk_at "rd") => `(tactic| repeat (walk_at "rd1"))
/-! ### square tables -/
structure Sq (k : Nat) (M : List (List Int)) : Prop where
  l : M.length = k
  r : ∀ r ∈ M, r.length = k
  b : ∀ r ∈ M, ∀ x ∈ r, Bd x
  sy : ∀ a b : Int, 0 ≤ a → a < k → 0 ≤ b → b < k → at2 M a b = at2 M b a
def set2 (M : List (List Int)) (a b x : Int) : List (List Int) := M.set a.toNat ((rowOf M a).set b.toNat x)
theorem rowOf_set2 {M : List (List Int)} {a b x c : Int} (a0 : 0 ≤ a) (a1 : a < M.length) (c0 : 0 ≤ c) : rowOf (set2 M a b x) c = if c = a then (rowOf M a).set b.toNat x else rowOf M c := by
  unfold set2
  by_cases h : c = a
  · rw [if_pos h, h]
    show (M.set a.toNat _).getD a.toNat [] = _
    rw [List.getD_eq_getElem?_getD, List.getElem?_set_self (by omega)]; rfl
  · rw [if_neg h]
    show (M.set a.toNat _).getD c.toNat [] = M.getD c.toNat []
    rw [List.getD_eq_getElem?_getD, List.getElem?_set_ne (by omega), ← List.getD_eq_getElem?_getD]
theorem at2_set2 {M : List (List Int)} {a b x c d : Int} (a0 : 0 ≤ a) (a1 : a < M.length) (b0 : 0 ≤ b) (b1 : b < (rowOf M a).length) (c0 : 0 ≤ c) (d0 : 0 ≤ d) : at2 (set2 M a b x) c d = if c = a ∧ d = b then x else at2 M c d := by
  unfold at2
  rw [rowOf_set2 a0 a1 c0]
  by_cases h : c = a
  · rw [if_pos h]
    unfold modeAt
    by_cases h2 : d = b
    · rw [if_pos ⟨h, h2⟩, h2, List.getD_eq_getElem?_getD, List.getElem?_set_self (by omega)]; rfl
    · rw [if_neg (fun z => h2 z.2), h, List.getD_eq_getElem?_getD, List.getElem?_set_ne (by omega), ← List.getD_eq_getElem?_getD]
  · rw [if_neg h, if_neg (fun z => h z.1)]
theorem set2_len (M : List (List Int)) (a b x : Int) : (set2 M a b x).length = M.length := List.length_set
theorem set2_row {k : Nat} {M : List (List Int)} {a b x : Int} (a0 : 0 ≤ a) (a1 : a < M.length) (h : ∀ r ∈ M, r.length = k) : ∀ r ∈ set2 M a b x, r.length = k := fun r hr => by
  unfold set2 at hr
  rcases List.mem_or_eq_of_mem_set hr with y | y
  · exact h r y
  · rw [y, List.length_set]; exact h _ (rowOf_mem' a0 a1)
theorem set2_bd {M : List (List Int)} {a b x : Int} (a0 : 0 ≤ a) (a1 : a < M.length) (hx : Bd x) (h : ∀ r ∈ M, ∀ y ∈ r, Bd y) : ∀ r ∈ set2 M a b x, ∀ y ∈ r, Bd y := fun r hr y hy => by
  unfold set2 at hr
  rcases List.mem_or_eq_of_mem_set hr with z | z
  · exact h r z y hy
  · rw [z] at hy
    rcases List.mem_or_eq_of_mem_set hy with w | w
    · exact h _ (rowOf_mem' a0 a1) y w
    · rw [w]; exact hx
theorem Sq.put {k : Nat} {M : List (List Int)} {a b x : Int} (h : Sq k M) (a0 : 0 ≤ a) (a1 : a < (k : Nat)) (b0 : 0 ≤ b) (b1 : b < (k : Nat)) (hx : Bd x) : Sq k (set2 (set2 M a b x) b a x) := by
  have l1 := h.l
  have ra : (rowOf M a).length = k := h.r _ (rowOf_mem' a0 (by omega))
  have rb : (rowOf (set2 M a b x) b).length = k := set2_row a0 (by omega) h.r _ (rowOf_mem' b0 (by rw [set2_len]; omega))
  refine ⟨by rw [set2_len, set2_len]; exact h.l, set2_row b0 (by rw [set2_len]; omega) (set2_row a0 (by omega) h.r), set2_bd b0 (by rw [set2_len]; omega) hx (set2_bd a0 (by omega) hx h.b), fun c d c0 c1 d0 d1 => ?_⟩
  rw [at2_set2 b0 (by rw [set2_len]; omega) a0 (by omega) c0 d0, at2_set2 b0 (by rw [set2_len]; omega) a0 (by omega) d0 c0,
    at2_set2 a0 (by omega) b0 (by omega) c0 d0, at2_set2 a0 (by omega) b0 (by omega) d0 c0, h.sy c d c0 c1 d0 d1]
  by_cases h1 : c = b ∧ d = a
  · rw [if_pos h1, if_pos (show d = a ∧ c = b from ⟨h1.2, h1.1⟩)]
    by_cases h2 : d = b ∧ c = a
    · rw [if_pos h2]
    · rw [if_neg h2]
  · rw [if_neg h1]
    by_cases h2 : d = b ∧ c = a
    · rw [if_pos h2, if_pos (show c = a ∧ d = b from ⟨h2.2, h2.1⟩)]
    · rw [if_neg h2, if_neg (fun z => h2 ⟨z.2, z.1⟩), if_neg (fun z => h1 ⟨z.2, z.1⟩)]
theorem sq_zero {k : Nat} : Sq k (List.replicate k (List.replicate k 0)) := by
  have z : ∀ a b : Int, at2 (List.replicate k (List.replicate k 0)) a b = 0 := fun a b => by
    unfold at2 modeAt rowOf
    rw [List.getD_eq_getElem?_getD, List.getD_eq_getElem?_getD, List.getElem?_replicate]
    split
    · show ((List.replicate k (0 : Int))[b.toNat]?).getD 0 = 0
      rw [List.getElem?_replicate]
      split <;> rfl
    · rfl
  refine ⟨List.length_replicate, fun r hr => ?_, fun r hr x hx => ?_, fun a b _ _ _ _ => ?_⟩
  · rw [List.eq_of_mem_replicate hr]; exact List.length_replicate
  · rw [List.eq_of_mem_replicate hr] at hx
    rw [List.eq_of_mem_replicate hx]
    exact ⟨by decide, by decide⟩
  · rw [z, z]
theorem Rows.put {H : Hp} {N : Addr} {rs : List Addr} {R : List (List Int)} (h : Rows H N rs R) {k : Nat} {r : Addr} (row : List Int) (hr : rs[k]? = some r) :
    Rows (upd H r (.lst (row.map V.int))) N rs (R.set k row) := by
  have mem : r ∈ rs := List.mem_of_getElem? hr
  refine ⟨by rw [upd_ne (fun z => h.out (by rw [z]; exact mem))]; exact h.at_, ?_, h.nd, h.out⟩
  have gen : ∀ {l : List Addr} {m : List (List Int)} (k : Nat), Paired (fun r (row : List Int) => H r = some (.lst (row.map V.int))) l m → l.Nodup → l[k]? = some r →
      Paired (fun q (row' : List Int) => upd H r (.lst (row.map V.int)) q = some (.lst (row'.map V.int))) l (m.set k row) := by
    intro l m k p
    induction p generalizing k with
    | nil => intro _ z; simp at z
    | @cons x y l m hxy q ih =>
      intro nd z
      have nd' := (List.nodup_cons.mp nd)
      cases k with
      | zero =>
        simp at z
        subst z
        refine .cons (by show upd H x _ x = _; rw [upd_same]) ?_
        have gen2 : ∀ {l : List Addr} {m : List (List Int)}, Paired (fun r (row : List Int) => H r = some (.lst (row.map V.int))) l m → x ∉ l → Paired (fun q (row' : List Int) => upd H x (.lst (row.map V.int)) q = some (.lst (row'.map V.int))) l m := by
          intro l m p
          induction p with
          | nil => intro _; exact .nil
          | @cons u v l m huv _ ih2 =>
            intro hx
            refine .cons ?_ (ih2 fun z => hx (List.mem_cons_of_mem _ z))
            show upd H x _ u = _
            rw [upd_ne (fun z => hx (by rw [z]; exact List.mem_cons_self))]
            exact huv
        exact gen2 q nd'.1
      | succ j =>
        simp at z
        refine .cons ?_ (ih j nd'.2 z)
        show upd H r _ x = _
        rw [upd_ne (fun e => nd'.1 (by rw [e]; exact List.mem_of_getElem? z))]
        exact hxy
  exact gen k h.rows h.nd hr
theorem Rows.fix {p q : Addr} {H H' : Hp} {N : Addr} {rs : List Addr} {R : List (List Int)} (h : Rows H N rs R) (f : Fix p q H H') (np : N ≠ p) (nq : N ≠ q) (hr : ∀ r ∈ rs, r ≠ p ∧ r ≠ q) : Rows H' N rs R := by
  refine ⟨f _ _ np nq h.at_, ?_, h.nd, h.out⟩
  have gen : ∀ {l : List Addr} {m : List (List Int)}, Paired (fun r (row : List Int) => H r = some (.lst (row.map V.int))) l m → (∀ r ∈ l, r ≠ p ∧ r ≠ q) → Paired (fun r (row : List Int) => H' r = some (.lst (row.map V.int))) l m := fun {l m} z => by
    induction z with
    | nil => intro _; exact .nil
    | cons a _ ih =>
      intro hl
      obtain ⟨h1, h2⟩ := hl _ List.mem_cons_self
      exact .cons (f _ _ h1 h2 a) (ih fun r hr => hl r (List.mem_cons_of_mem _ hr))
  exact gen h.rows hr
theorem Rows.row' {H : Hp} {N : Addr} {rs : List Addr} {R : List (List Int)} (h : Rows H N rs R) {a : Int} (a0 : 0 ≤ a) (a1 : a < R.length) : ∃ r, rs[a.toNat]? = some r ∧ atI (rs.map V.ref) a = some (.ref r) ∧ H r = some (.lst ((rowOf R a).map V.int)) := by
  have hn : a.toNat < R.length := by omega
  obtain ⟨r, e, hr⟩ := paired_get' h.rows (rowOf_get hn)
  refine ⟨r, e, ?_, hr⟩
  obtain ⟨n, rfl⟩ := Int.eq_ofNat_of_zero_le a0
  have en : ((n : Nat) : Int).toNat = n := by omega
  rw [en] at e
  exact atI_nat (by rw [List.getElem?_map, e]; rfl)
def spNumber : L2.Sp := fun vs H Q _ => ∃ p q : Addr, vs = [.ref p] ∧ Deal H p q ∧ ∀ H' i, Deal H' p q → Fix p q H H' → Bd i → Q (.int i) H'
def spWeighing : L2.Sp := fun vs H Q _ => ∃ (p q : Addr) (k : Nat), vs = [.ref p, .int (k : Nat)] ∧ Deal H p q ∧ 1 ≤ k ∧ k ≤ 4 ∧
  ∀ H' t W S, Deal H' p q → Fix p q H H' → WtAt H' t W S → Wg k W S → Q (.ref t) H'
def spLWeight : L2.Sp := fun vs H Q _ => ∃ (t a l : Addr) (k : Nat) (W S : List (List Int)) (ms : List Int) (ps : List Addr) (L : List (Int × Int)), vs = [.ref t, .ref a, .ref l] ∧ WtAt H t W S ∧ Wg k W S ∧ H a = some (.lst (ms.map V.int)) ∧ H l = some (.lst (ps.map V.ref)) ∧ Paired (PairAt H) ps L ∧ Nw ms L ∧ (∀ m ∈ ms, m < (k : Nat)) ∧
  ∀ H', Same H H' → Q (.int (wt W S ms L)) H'
def spLRoom : L2.Sp := fun vs H Q _ => ∃ (t a l : Addr) (k : Nat) (W S : List (List Int)) (ms : List Int) (ps : List Addr) (L : List (Int × Int)), vs = [.ref t, .ref a, .ref l] ∧ WtAt H t W S ∧ Wg k W S ∧ H a = some (.lst (ms.map V.int)) ∧ H l = some (.lst (ps.map V.ref)) ∧ Paired (PairAt H) ps L ∧ Nw ms L ∧ (∀ m ∈ ms, m < (k : Nat)) ∧
  ∀ H', Same H H' → Q (.int (roomI W S ms L)) H'
theorem views_len (ms : List Int) (L : List (Int × Int)) : (viewsOf ms L).length = ms.length := by unfold viewsOf; rw [List.length_map, List.length_range]
section
variable {P : Program} {w : World} {K : PySem.W.Frag} {mg : Str → Option Value} {base : Heap} (T : TX K mg)
theorem G__law_number : FnOk P w K mg base CX0 2 T.f__law_number T.d__law_number ["deal"] spNumber := by
  refine T.F__law_number.ok sc__law_number (fun vs H Q E h => ?_) fun cdv A outer s H vs Q E hr h => ⟨_, (pss_one (ps_ret (pe_ifExp (pt_cmpR op_eq (pe_call (G__law_any T) (hr.mono (by decide)) (by rfl) T.m__law_any T.F__law_any.kp T.b__law_any .nil pass0 (by exact (pa_cons (pv 0) (pa_cons pe_int pa_nil)))) pe_int (nomark _)) (pe_op op_sub (pe_call (G__law_any T) (hr.mono (by decide)) (by rfl) T.m__law_any T.F__law_any.kp T.b__law_any .nil pass0 (by exact (pa_cons (pv 0) (pa_cons pe_int pa_nil)))) pe_int) (pe_op op_sub (pe_call (G__law_any T) (hr.mono (by decide)) (by rfl) T.m__law_any T.F__law_any.kp T.b__law_any .nil pass0 (by exact (pa_cons (pv 0) (pa_cons pe_int pa_nil)))) pe_int)))), ?_⟩
  · obtain ⟨p, q, rfl, _⟩ := h
    rfl
  · obtain ⟨p, q, rfl, d, hQ⟩ := h
    walk_at "rd"
    refine ⟨p, q, 8, rfl, d, by decide, by decide, fun H1 i d1 f1 i0 i1 => ?_⟩
    walk_at "rd"
    by_cases c : i = 0
    · refine iteT' (decide_eq_true c) ?_
      walk_at "rd"
      refine ⟨p, q, 2000001, rfl, d1, by decide, by decide, fun H2 j d2 f2 j0 j1 => ?_⟩
      walk_at "rd"
      exact hQ H2 _ d2 (f1.trans f2) ⟨by omega, by omega⟩
    · refine iteF' (decide_eq_false c) ?_
      walk_at "rd"
      refine ⟨p, q, 15, rfl, d1, by decide, by decide, fun H2 j d2 f2 j0 j1 => ?_⟩
      walk_at "rd"
      exact hQ H2 _ d2 (f1.trans f2) ⟨by omega, by omega⟩
theorem G__law_weight : FnOk P w K mg base CX0 2 T.f__law_weight T.d__law_weight ["weighing", "modes", "links"] spLWeight := by
  refine T.F__law_weight.ok sc__law_weight (fun vs H Q E h => ?_) fun cdv A outer s H vs Q E hr h => ⟨_, (pss_cons (ps_set (i := 3) sc__law_weight.nd rfl (.inl rfl) (pe_callB (cr_sumK (K := K) rfl) (by rfl) T.n_sum (by decide +kernel) (by exact (pa_cons (by exact (pe_lc (own := [("one", 6), ("other", 7)]) (by rfl) sc__law_weight.nd (pi_listK (K := K) (pv 2)) (blkOk_by (own := [("one", 6), ("other", 7)]) (N := N__law_weight) (sc := defScope s__law_weight) (by decide +kernel)) (fun _ _ _ _ _ => (pg_tupK (K := K) (n := 2) (by rfl) (pgs_cons (pg_name (i := 6) sc__law_weight.nd rfl (.inl rfl)) (pgs_cons (pg_name (i := 7) sc__law_weight.nd rfl (.inl rfl)) pgs_nil)))) (fun _ _ _ _ _ => pts_nil) (fun _ _ _ _ _ => (pe_ix (ix_tupK (K := K)) (pe_ix (ix_tupK (K := K)) (pe_ix (ix_tupK (K := K)) (pv 0) pe_int (fun _ _ => rfl)) (pe_ix (ix_listK (K := K)) (pv 1) (pv 6) (fun _ _ => rfl)) (fun _ _ => rfl)) (pe_ix (ix_listK (K := K)) (pv 1) (pv 7) (fun _ _ => rfl)) (fun _ _ => rfl))) )) pa_nil)))) (pss_cons (ps_for PassesOwn.never rfl (pi_listK (K := K) (pe_call (G__law_views T) (hr.mono (by decide)) (by rfl) T.m__law_views T.F__law_views.kp T.b__law_views .nil pass0 (by exact (pa_cons (pv 1) (pa_cons (pv 2) pa_nil))))) (pg_tupK (K := K) (n := 2) (by rfl) (pgs_cons (pg_name (i := 4) sc__law_weight.nd rfl (.inl rfl)) (pgs_cons (pg_name (i := 5) sc__law_weight.nd rfl (.inl rfl)) pgs_nil))) (pss_one (ps_set (i := 3) sc__law_weight.nd rfl (.inl rfl) (pe_op op_add (pv 3) (pe_ix (ix_tupK (K := K)) (pe_ix (ix_tupK (K := K)) (pe_ix (ix_tupK (K := K)) (pv 0) pe_int (fun _ _ => rfl)) (pe_callB (cr_lenK (K := K)) (by rfl) T.n_len (by decide +kernel) (by exact (pa_cons (pv 5) pa_nil))) (fun _ _ => rfl)) (pv 4) (fun _ _ => rfl)))))) (pss_one (ps_ret (pv 3))))), ?_⟩
  · obtain ⟨t, a, l, k, W, S, ms, ps, L, rfl, _⟩ := h
    rfl
  · obtain ⟨t, a, l, k, W, S, ms, ps, L, rfl, hw, g, ha, hl, pL, nw, mk, hQ⟩ := h
    obtain ⟨u, v, ht, hu, hv⟩ := hw
    have lL := nw.lL
    have lp := paired_len pL
    walk_at "rd"
    refine ⟨l, rfl, ⟨_, SqL.of hl⟩, fun D hD => ?_⟩
    refine lcv_list (xs := ps.map V.ref) ((L.map (wl W ms)).map V.int) hl (by rw [List.length_map, List.length_map, List.length_map, lp]) (by rw [List.length_map, List.length_map]; omega) hD (fun i x z H1 hx hz S1 R hR => ?_) (fun H1 S1 hD1 => ?_)
    · rw [List.map_map, List.getElem?_map] at hz
      obtain ⟨e, he, rfl⟩ := Option.map_eq_some_iff.mp hz
      rw [List.getElem?_map] at hx
      obtain ⟨q, hq, rfl⟩ := Option.map_eq_some_iff.mp hx
      obtain ⟨e', he', hqe⟩ := paired_get pL hq
      rw [he] at he'
      cases he'
      obtain ⟨a0, a1, b0, b1, c0, c1, d0, d1⟩ := link_ok nw mk (List.mem_of_getElem? he)
      refine rd_gtup (Tup.of (S1 _ _ hqe)) rfl ?_
      walk_at "rd"
      refine ⟨rfl, ?_⟩
      walk_at "rd"
      refine rd_ixT (ht.same S1) rfl ?_
      walk_at "rd"
      refine rd_ixL (S1 _ _ ha) (modeAt_get a0 a1) ?_
      refine rd_at2 (hu.same S1) c0 (by rw [g.lW]; exact c1) fun r hr => ?_
      walk_at "rd"
      refine rd_ixL (S1 _ _ ha) (modeAt_get b0 b1) ?_
      refine rd_rowAt hr d0 (by rw [g.rowW c0 c1]; exact d1) ?_
      exact hR H1 (Same.refl _)
    · walk_at "rd"
      refine rd_sum hD1 ?_
      walk_at "rd"
      refine ⟨a, l, ms, ps, L, rfl, S1 _ _ ha, S1 _ _ hl, pairs_same pL S1, nw.g, nw.ml, lL, fun H2 t2 vs2 S2 z2 ht2 pv2 => ?_⟩
      have S12 := S1.trans S2
      have lv := paired_len pv2
      have lv2 := views_len ms L
      refine ⟨t2, rfl, ⟨_, SqL.of ht2⟩, ?_⟩
      refine for_list (xs := vs2.map V.ref) (fun j σ H' => (∃ o4 o5 o6 o7, σ = [some (.ref t), some (.ref a), some (.ref l), some (.int ((L.map (wl W ms)).sum + (((viewsOf ms L).take j).map (wv S)).sum)), o4, o5, o6, o7]) ∧ Same H2 H')
        ⟨⟨_, _, _, _, by rw [List.take_zero, List.map_nil, List.sum_nil, Int.add_zero]; rfl⟩, Same.refl _⟩ (fun j σ H' _ pv => SqL.of (pv.2 _ _ ht2)) (fun j x σ H3 hx pv => ?_) (fun σ H3 pv => ?_)
      · obtain ⟨⟨o4, o5, o6, o7, rfl⟩, S3⟩ := pv
        rw [List.getElem?_map] at hx
        obtain ⟨q, hq, rfl⟩ := Option.map_eq_some_iff.mp hx
        obtain ⟨e, he, hqe⟩ := paired_get pv2 hq
        obtain ⟨r, h1, h2⟩ := hqe.same S3
        obtain ⟨a0, a1, b0, b1⟩ := view_ok nw mk (List.mem_of_getElem? he)
        refine rd_gtup (Tup.of h1) rfl ?_
        walk_at "rd"
        refine rd_ixT ((ht.same S12).same S3) rfl ?_
        walk_at "rd"
        refine rd_lenTup (Tup.of h2) ?_
        rw [List.length_map]
        refine rd_at2 ((hv.same S12).same S3) (by omega) (by rw [g.lS]; omega) fun r2 hr2 => ?_
        walk_at "rd"
        refine rd_rowAt hr2 a0 (by rw [g.rowS (by omega) (by omega)]; exact a1) ?_
        walk_at "rd"
        have e3 : (((viewsOf ms L).take (j + 1)).map (wv S)).sum = (((viewsOf ms L).take j).map (wv S)).sum + wv S e := by
          rw [List.take_succ, he]
          simp
        exact ⟨⟨_, _, _, _, by rw [e3, ← Int.add_assoc]; rfl⟩, S3⟩
      · obtain ⟨⟨o4, o5, o6, o7, rfl⟩, S3⟩ := pv
        have e3 : (viewsOf ms L).take (vs2.map V.ref).length = viewsOf ms L := List.take_of_length_le (by rw [List.length_map]; omega)
        rw [e3]
        walk_at "rd"
        exact hQ H3 (S12.trans S3)
theorem G__law_room : FnOk P w K mg base CX0 3 T.f__law_room T.d__law_room ["weighing", "modes", "links"] spLRoom := by
  refine T.F__law_room.ok sc__law_room (fun vs H Q E h => ?_) fun cdv A outer s H vs Q E hr h => ⟨_, (pss_cons (ps_set (i := 4) sc__law_room.nd rfl (.inl rfl) (pe_callB (cr_minK (K := K) rfl) (by rfl) T.n_min (by decide +kernel) (by exact (pa_cons (by exact (pe_lc (own := [("row", 3)]) (by rfl) sc__law_room.nd (pi_tupK (K := K) (pe_ix (ix_tupK (K := K)) (pv 0) pe_int (fun _ _ => rfl))) (blkOk_by (own := [("row", 3)]) (N := N__law_room) (sc := defScope s__law_room) (by decide +kernel)) (fun _ _ _ _ _ => (pg_name (i := 3) sc__law_room.nd rfl (.inl rfl))) (fun _ _ _ _ _ => pts_nil) (fun _ _ _ _ _ => (pe_callB (cr_minTK (K := K) rfl hr.units) (by rfl) T.n_min (by decide +kernel) (by exact (pa_cons (pv 3) pa_nil)))) )) pa_nil)))) (pss_cons (ps_set (i := 5) sc__law_room.nd rfl (.inl rfl) (pe_op op_sub (pe_call (G__law_weight T) (hr.mono (by decide)) (by rfl) T.m__law_weight T.F__law_weight.kp T.b__law_weight .nil pass0 (by exact (pa_cons (pv 0) (pa_cons (pv 1) (pa_cons (pv 2) pa_nil))))) (pe_op op_mul (pv 4) (pe_callB (cr_lenK (K := K)) (by rfl) T.n_len (by decide +kernel) (by exact (pa_cons (pv 2) pa_nil)))))) (pss_cons (ps_for PassesOwn.never rfl (pi_listK (K := K) (pe_call (G__law_views T) (hr.mono (by decide)) (by rfl) T.m__law_views T.F__law_views.kp T.b__law_views .nil pass0 (by exact (pa_cons (pv 1) (pa_cons (pv 2) pa_nil))))) (pg_tupK (K := K) (n := 2) (by rfl) (pgs_cons (pg_name (i := 6) sc__law_room.nd rfl (.inl rfl)) (pgs_cons (pg_name (i := 3) sc__law_room.nd rfl (.inl rfl)) pgs_nil))) (pss_one (ps_set (i := 5) sc__law_room.nd rfl (.inl rfl) (pe_op op_sub (pv 5) (pe_callB (cr_minTK (K := K) rfl hr.units) (by rfl) T.n_min (by decide +kernel) (by exact (pa_cons (pe_ix (ix_tupK (K := K)) (pe_ix (ix_tupK (K := K)) (pv 0) pe_int (fun _ _ => rfl)) (pe_callB (cr_lenK (K := K)) (by rfl) T.n_len (by decide +kernel) (by exact (pa_cons (pv 3) pa_nil))) (fun _ _ => rfl)) pa_nil))))))) (pss_one (ps_ret (pv 5)))))), ?_⟩
  · obtain ⟨t, a, l, k, W, S, ms, ps, L, rfl, _⟩ := h
    rfl
  · obtain ⟨t, a, l, k, W, S, ms, ps, L, rfl, hw, g, ha, hl, pL, nw, mk, hQ⟩ := h
    have hw0 := hw
    obtain ⟨u, v, ht, hu, hv⟩ := hw
    obtain ⟨rs, hrs, pW⟩ := id hu
    have lL := nw.lL
    have lp := paired_len pL
    have lW := g.lW
    have lrs := paired_len pW
    have k1 := g.k1
    have k4 := g.k4
    walk_at "rd"
    refine rd_ixT ht rfl ?_
    refine ⟨u, rfl, ⟨_, hrs.sq⟩, fun D hD => ?_⟩
    refine lcv_tup (xs := rs.map V.ref) ((W.map leastI).map V.int) hrs (by rw [List.length_map, List.length_map, List.length_map, lrs]) (by rw [List.length_map, List.length_map]; omega) hD (fun i x z H1 hx hz S1 R hR => ?_) (fun H1 S1 hD1 => ?_)
    · rw [List.map_map, List.getElem?_map] at hz
      obtain ⟨e, he, rfl⟩ := Option.map_eq_some_iff.mp hz
      rw [List.getElem?_map] at hx
      obtain ⟨q, hq, rfl⟩ := Option.map_eq_some_iff.mp hx
      obtain ⟨e', he', hqe⟩ := paired_get pW hq
      rw [he] at he'
      cases he'
      have le := g.rW e (List.mem_of_getElem? he)
      walk_at "rd"
      refine ⟨rfl, ?_⟩
      walk_at "rd"
      refine rd_minT (rowT_same hqe S1) (by omega) ?_
      exact hR H1 (Same.refl _)
    · walk_at "rd"
      refine rd_min hD1 (by rw [List.length_map]; omega) ?_
      walk_at "rd"
      refine ⟨t, a, l, k, W, S, ms, ps, L, rfl, hw0.same S1, g, S1 _ _ ha, S1 _ _ hl, pairs_same pL S1, nw, mk, fun H2 S2 => ?_⟩
      have S12 := S1.trans S2
      walk_at "rd"
      refine rd_len (S12 _ _ hl) ?_
      rw [List.length_map]
      walk_at "rd"
      refine rd_rI (.inr ⟨by omega, by omega⟩) ?_
      walk_at "rd"
      refine ⟨a, l, ms, ps, L, rfl, S12 _ _ ha, S12 _ _ hl, pairs_same pL S12, nw.g, nw.ml, lL, fun H3 t2 vs2 S3 z2 ht2 pv2 => ?_⟩
      have S13 := S12.trans S3
      have lv := paired_len pv2
      have lv2 := views_len ms L
      refine ⟨t2, rfl, ⟨_, SqL.of ht2⟩, ?_⟩
      refine for_list (xs := vs2.map V.ref) (fun j σ H' => (∃ o3 o5 o6, σ = [some (.ref t), some (.ref a), some (.ref l), o3, o5, some (.int (wt W S ms L - leastI (W.map leastI) * ((ps.length : Nat) : Int) - (((viewsOf ms L).take j).map (lowS S)).sum)), o6]) ∧ Same H3 H')
        ⟨⟨_, _, _, by rw [List.take_zero, List.map_nil, List.sum_nil, Int.sub_zero]; rfl⟩, Same.refl _⟩ (fun j σ H' _ pv => SqL.of (pv.2 _ _ ht2)) (fun j x σ H4 hx pv => ?_) (fun σ H4 pv => ?_)
      · obtain ⟨⟨o3, o5, o6, rfl⟩, S4⟩ := pv
        rw [List.getElem?_map] at hx
        obtain ⟨q, hq, rfl⟩ := Option.map_eq_some_iff.mp hx
        obtain ⟨e, he, hqe⟩ := paired_get pv2 hq
        obtain ⟨r, h1, h2⟩ := hqe.same S4
        obtain ⟨a0, a1, b0, b1⟩ := view_ok nw mk (List.mem_of_getElem? he)
        refine rd_gtup (Tup.of h1) rfl ?_
        walk_at "rd"
        refine rd_ixT ((ht.same S13).same S4) rfl ?_
        walk_at "rd"
        refine rd_lenTup (Tup.of h2) ?_
        rw [List.length_map]
        refine rd_at2 ((hv.same S13).same S4) (by omega) (by rw [g.lS]; omega) fun r2 hr2 => ?_
        walk_at "rd"
        refine rd_minT hr2 (by rw [g.rowS (by omega) (by omega)]; omega) ?_
        walk_at "rd"
        have e3 : (((viewsOf ms L).take (j + 1)).map (lowS S)).sum = (((viewsOf ms L).take j).map (lowS S)).sum + lowS S e := by
          rw [List.take_succ, he]
          simp
        exact ⟨⟨_, _, _, by rw [e3, ← Int.sub_sub]; rfl⟩, S4⟩
      · obtain ⟨⟨o3, o5, o6, rfl⟩, S4⟩ := pv
        have e3 : (viewsOf ms L).take (vs2.map V.ref).length = viewsOf ms L := List.take_of_length_le (by rw [List.length_map]; omega)
        rw [e3]
        walk_at "rd"
        have q := hQ H4 (S13.trans S4)
        unfold roomI at q
        rw [← lp, Int.mul_comm ((ps.length : Nat) : Int)] at q
        exact q
end
end K65

namespace K65
open PySem PySem.Spec PyProof.Rows L2 KX
local macro_rules | `(tactic| walk_at "rd1") => `(tactic| first
  | with_reducible refine rd_seq ?_
  | with_reducible refine rd_for ?_
  | with_reducible refine rd_lc ?_
  | with_reducible refine rd_asg ?_
  | ((with_reducible refine' rd_var ?rdv ?_); (case rdv => exact rfl))
  | with_reducible refine rd_c ?_
  | with_reducible refine rd_op ?_
  | with_reducible refine rd_un ?_
  | with_reducible refine rd_cons ?_
  | with_reducible refine rd_nil ?_
  | with_reducible refine rd_call ?_
  | with_reducible refine rd_cb ?_
  | with_reducible refine rd_tB ?_
  | with_reducible refine rd_test ?_
  | with_reducible refine rd_bl ?_
  | with_reducible refine rd_rI0 ?_
  | with_reducible refine rd_eqI ?_
  | with_reducible refine rd_neI ?_
  | with_reducible refine rd_rU ?_
  | with_reducible refine rd_name ?_
  | with_reducible refine rd_ifs ?_
  | with_reducible refine rd_and ?_
  | with_reducible refine rd_or ?_
  | with_reducible refine rd_not ?_
  | with_reducible refine rd_yes ?_
  | with_reducible refine rd_andV ?_
  | with_reducible refine rd_orV ?_
  | with_reducible refine rd_notV ?_
  | with_reducible refine rd_if ?_
  | with_reducible refine rd_isN ?_
  | with_reducible refine rd_iT ?_
  | with_reducible refine rd_iF ?_
  | with_reducible refine rd_ret ?_
  | with_reducible refine rd_retN ?_
  | with_reducible refine rd_drop ?_
  | with_reducible refine rd_next ?_
  | with_reducible refine rd_cont ?_
  | with_reducible refine rd_brk ?_
  | with_reducible refine rd_nx ?_
  | with_reducible refine rd_rt ?_
  | with_reducible refine rd_ct ?_
  | with_reducible refine rd_bk ?_
  | with_reducible refine rd_par ?_
  | with_reducible refine rd_par3 ?_
  | with_reducible refine rd_par2 ?_
  | with_reducible refine rd_par33 ?_
  | with_reducible refine rd_gcons ?_
  | with_reducible refine rd_gnil ?_
  | with_reducible refine rd_sub ?_
  | with_reducible refine rd_tup ?_
  | with_reducible refine rd_lst ?_
  | ((with_reducible refine rd_tupT ?hl ?_); (case hl => exact Nat.le_of_ble_eq_true rfl))
  | ((with_reducible refine rd_lstT ?hl ?_); (case hl => exact Nat.le_of_ble_eq_true rfl))
  | with_reducible refine rd_bm ?_
  | with_reducible refine rd_bm0 ?_
  | with_reducible refine rd_sl ?_
  | with_reducible refine rd_noP ?_
  | with_reducible refine rd_part ?_
  | with_reducible refine rd_int ?_
  | with_reducible refine rd_int1 ?_
  | with_reducible refine rd_fld ?_
  | with_reducible refine rd_then ?_
  | with_reducible refine rd_raise ?_
  | with_reducible refine rd_one ?_
  | with_reducible refine rd_sfld ?_
  | with_reducible refine rd_ilist ?_
  | with_reducible refine rd_itup ?_
  | with_reducible refine rd_rng1 ?_
  | with_reducible refine rd_enum ?_
  | with_reducible refine rd_enumT ?_)
local macro_rules | `(tactic| walk_at "rd") => `(tactic| repeat (walk_at "rd1"))
theorem rd_rng2 {ta : TA} {σ : L2.St} {H : Hp} {R : It → Hp → Prop} (h : ta σ H fun vs H1 => ∃ i j : Int, vs = [.int i, .int j] ∧ (-(2 ^ 62) ≤ i ∧ i < 2 ^ 62 ∧ -(2 ^ 62) ≤ j ∧ j < 2 ^ 62) ∧ R (Itr i (j - i).toNat) H1) : iRng2 ta σ H R := h
theorem Rows.wr {H : Hp} {N : Addr} {rs : List Addr} {R : List (List Int)} (h : Rows H N rs R) {a b x : Int} (a0 : 0 ≤ a) (a1 : a < R.length) :
    ∃ r, atI (rs.map V.ref) a = some (.ref r) ∧ r ∈ rs ∧ H r = some (.lst ((rowOf R a).map V.int)) ∧ Rows (upd H r (.lst (((rowOf R a).map V.int).set b.toNat (.int x)))) N rs (set2 R a b x) := by
  obtain ⟨r, e, h1, h2⟩ := h.row' a0 a1
  refine ⟨r, h1, List.mem_of_getElem? e, h2, ?_⟩
  have q := h.put ((rowOf R a).set b.toNat x) e
  rw [List.map_set] at q
  exact q
theorem rowT_upd {H : Hp} {l q : Addr} {ns : List Int} {xs ys : List V} (h : RowT H q ns) (hl : H l = some (.lst xs)) : RowT (upd H l (.lst ys)) q ns := by
  rcases h with h | h
  · exact .inl (by rw [upd_ne (fun z => by rw [z, hl] at h; cases h)]; exact h)
  · obtain ⟨o, h⟩ := h
    exact .inr ⟨o, by rw [upd_ne (fun z => by rw [z, hl] at h; cases h)]; exact h⟩
theorem tup_fix {H H' : Hp} {p q a : Addr} {xs : List V} (f : Fix p q H H') (d : Deal H p q) (h : Tup H a xs) : Tup H' a xs := by
  rcases h with h | h
  · exact .inl (f.keep d h fun _ z => by cases z)
  · obtain ⟨o, h⟩ := h
    exact .inr ⟨o, f.keep d h fun _ z => by cases z⟩
section
variable {P : Program} {w : World} {K : PySem.W.Frag} {mg : Str → Option Value} {base : Heap} (T : TX K mg)
theorem G__law_weighing : FnOk P w K mg base CX0 3 T.f__law_weighing T.d__law_weighing ["deal", "kinds"] spWeighing := by
  refine T.F__law_weighing.ok sc__law_weighing (fun vs H Q E h => ?_) fun cdv A outer s H vs Q E hr h => ⟨_, (pss_cons (ps_par (i := 3) (j := 4) (by rfl) sc__law_weighing.nd rfl rfl (by decide) rfl rfl (pa_cons (by exact (pe_lc (own := [("one", 2)]) (by rfl) sc__law_weighing.nd (pi_range1 (by rfl) T.n_range (by exact (pa_cons (pv 1) pa_nil))) (blkOk_by (own := [("one", 2)]) (N := N__law_weighing) (sc := defScope s__law_weighing) (by decide +kernel)) (fun _ _ _ _ _ => (pg_name (i := 2) sc__law_weighing.nd rfl (.inl rfl))) (fun _ _ _ _ _ => pts_nil) (fun _ _ _ _ _ => (pe_op op_rep (pe_lst (pa_cons pe_int pa_nil)) (pv 1))) )) (pa_cons (pe_lst pa_nil) pa_nil)) (by rfl)) (pss_cons (ps_asg (pe_tup (pa_cons (pe_call (G__law_number T) (hr.mono (by decide)) (by rfl) T.m__law_number T.F__law_number.kp T.b__law_number .nil pass0 (by exact (pa_cons (pv 0) pa_nil))) (pa_cons (pe_call (G__law_any T) (hr.mono (by decide)) (by rfl) T.m__law_any T.F__law_any.kp T.b__law_any .nil pass0 (by exact (pa_cons (pv 0) (pa_cons pe_int pa_nil)))) pa_nil))) (pg_tupK (K := K) (n := 2) (by rfl) (pgs_cons (pg_name (i := 5) sc__law_weighing.nd rfl (.inr rfl)) (pgs_cons (pg_name (i := 6) sc__law_weighing.nd rfl (.inr rfl)) pgs_nil)))) (pss_cons (ps_for PassesOwn.never rfl (pi_range1 (by rfl) T.n_range (by exact (pa_cons (pv 1) pa_nil))) (pg_name (i := 2) sc__law_weighing.nd rfl (.inl rfl)) (pss_one (ps_for PassesOwn.never rfl (pi_range2 (by rfl) T.n_range (by exact (pa_cons (pv 2) (pa_cons (pv 1) pa_nil)))) (pg_name (i := 7) sc__law_weighing.nd rfl (.inl rfl)) (pss_cons (ps_set (i := 8) sc__law_weighing.nd rfl (.inl rfl) (pe_ifExp (pt_cmpR op_eq (pv 6) pe_int (nomark _)) (pv 5) (pe_call (G__law_number T) (hr.mono (by decide)) (by rfl) T.m__law_number T.F__law_number.kp T.b__law_number .nil pass0 (by exact (pa_cons (pv 0) pa_nil))))) (pss_cons (ps_set (i := 9) sc__law_weighing.nd rfl (.inl rfl) (pe_ix (ix_listK (K := K)) (pv 3) (pv 2) (fun _ _ => rfl))) (pss_cons (ps_asg (pv 8) (pg_sub (pv 9) (pv 7) set_list)) (pss_cons (ps_set (i := 9) sc__law_weighing.nd rfl (.inl rfl) (pe_ix (ix_listK (K := K)) (pv 3) (pv 7) (fun _ _ => rfl))) (pss_one (ps_asg (pv 8) (pg_sub (pv 9) (pv 2) set_list)))))))))) (pss_cons (ps_for PassesOwn.never rfl (pi_range1 (by rfl) T.n_range (by exact (pa_cons pe_int pa_nil))) (pg_name (i := 10) sc__law_weighing.nd rfl (.inl rfl)) (pss_one (ps_expr (pe_bmK (K := K) PySem.F.slot_list_append PySem.F.type_list_append mt_append (pv 4) (by exact (pa_cons (pe_tupleK (K := K) (by rfl) T.n_tuple (by exact (pe_lc (own := [("mode", 11)]) (by rfl) sc__law_weighing.nd (pi_range1 (by rfl) T.n_range (by exact (pa_cons (pv 1) pa_nil))) (blkOk_by (own := [("mode", 11)]) (N := N__law_weighing) (sc := defScope s__law_weighing) (by decide +kernel)) (fun _ _ _ _ _ => (pg_name (i := 11) sc__law_weighing.nd rfl (.inl rfl))) (fun _ _ _ _ _ => pts_nil) (fun _ _ _ _ _ => (pe_ifExp (pt_cmpR op_eq (pv 6) pe_int (nomark _)) (pv 5) (pe_call (G__law_number T) (hr.mono (by decide)) (by rfl) T.m__law_number T.F__law_number.kp T.b__law_number .nil pass0 (by exact (pa_cons (pv 0) pa_nil))))) ))) pa_nil)))))) (pss_one (ps_ret (pe_tup (pa_cons (pe_tupleK (K := K) (by rfl) T.n_tuple (by exact (pe_lc (own := [("row", 9)]) (by rfl) sc__law_weighing.nd (pi_listK (K := K) (pv 3)) (blkOk_by (own := [("row", 9)]) (N := N__law_weighing) (sc := defScope s__law_weighing) (by decide +kernel)) (fun _ _ _ _ _ => (pg_name (i := 9) sc__law_weighing.nd rfl (.inl rfl))) (fun _ _ _ _ _ => pts_nil) (fun _ _ _ _ _ => (pe_tupleK (K := K) (by rfl) T.n_tuple (pv 9))) ))) (pa_cons (pe_tupleK (K := K) (by rfl) T.n_tuple (pv 4)) pa_nil))))))))), ?_⟩
  · obtain ⟨p, q, k, rfl, _⟩ := h
    rfl
  · obtain ⟨p, q, k, rfl, d, k1, k4, hQ⟩ := h
    walk_at "rd"
    refine ⟨by omega, by omega, fun D hD => ?_⟩
    refine lc_range (lo := 0) (n := k) (fun i H' => Same H H' ∧ ∃ rs : List Addr, rs.length = i ∧ H' D = some (.lst (rs.map V.ref)) ∧ (∀ r ∈ rs, H' r = some (.lst (List.replicate k (.int 0))) ∧ H r = none) ∧ rs.Nodup ∧ D ∉ rs)
      ⟨Same.fresh hD, [], rfl, upd_same, by simp, List.nodup_nil, by simp⟩ (fun i H2 hi pv => ?_) (fun H2 pv => ?_)
    · obtain ⟨S2, rs, hl, hNr, hrs, nd, out⟩ := pv
      walk_at "rd"
      refine ⟨rfl, ?_⟩
      walk_at "rd"
      intro l1 H3 z3 S3 hl1
      walk_at "rd"
      refine rd_rep1 hl1 (by omega) ?_
      intro r H4 z4 S4 hr4
      have S24 := S3.trans S4
      have r0 : H2 r = none := S3.free z4
      have hN4 := S24 _ _ hNr
      have nr : D ≠ r := fun z => by rw [z, r0] at hNr; cases hNr
      have nrs : r ∉ rs := fun z => by
        have := (hrs r z).1
        rw [r0] at this; cases this
      refine ⟨_, hN4, by rw [List.length_map, hl]; exact Nat.lt_of_lt_of_le (by omega : i < 1000) (by decide), Same.put (S2.trans S24) hD, rs ++ [r], by simp [hl], by rw [upd_same]; simp, fun q hq => ?_, ?_, ?_⟩
      · rcases List.mem_append.mp hq with h | h
        · have nq : q ≠ D := fun z => out (by rw [← z]; exact h)
          rw [upd_ne nq]
          exact ⟨S24 _ _ (hrs q h).1, (hrs q h).2⟩
        · rw [List.mem_singleton.mp h, upd_ne (Ne.symm nr)]
          exact ⟨hr4, S2.free r0⟩
      · exact List.nodup_append.mpr ⟨nd, by simp, fun a ha b hb => by
          rw [List.mem_singleton.mp hb]
          exact fun z => nrs (by rw [← z]; exact ha)⟩
      · intro z
        rcases List.mem_append.mp z with h | h
        · exact out h
        · exact nr (List.mem_singleton.mp h)
    · obtain ⟨S2, rs, lrs, hNr, hrs, nd, out⟩ := pv
      have R0 : Rows H2 D rs (List.replicate k (List.replicate k 0)) := by
        refine ⟨hNr, ?_, nd, out⟩
        have gen : ∀ l : List Addr, (∀ r ∈ l, H2 r = some (.lst (List.replicate k (.int 0)))) → Paired (fun r (row : List Int) => H2 r = some (.lst (row.map V.int))) l (List.replicate l.length (List.replicate k 0)) := by
          intro l
          induction l with
          | nil => intro _; exact .nil
          | cons x l ih => intro h; exact .cons (by rw [List.map_replicate]; exact h x List.mem_cons_self) (ih fun r hr => h r (List.mem_cons_of_mem _ hr))
        have := gen rs fun r hr => (hrs r hr).1
        rwa [lrs] at this
      have fr : ∀ r ∈ rs, H r = none := fun r hr => (hrs r hr).2
      have nep : ∀ {a : Addr}, H a = none → a ≠ p ∧ a ≠ q := fun ha => d.nes ha
      walk_at "rd"
      intro rw' H3 z3 S3 hrw
      walk_at "rd"
      have d3 := (d.same S2).same S3
      have rw0 : H rw' = none := S2.free z3
      have rwn : rw' ∉ rs := fun z => by
        have := (hrs _ z).1
        rw [z3] at this; cases this
      have rwD : rw' ≠ D := fun z => by rw [z, hNr] at z3; cases z3
      have R3 := R0.same S3
      have f3 : Fix p q H H3 := Fix.same (S2.trans S3)
      refine ⟨p, q, rfl, d3, fun H4 sm d4 f4 bsm => ?_⟩
      walk_at "rd"
      refine ⟨p, q, 6, rfl, d4, by decide, by decide, fun H5' fm d5' f5' fm0 fm1 => ?_⟩
      walk_at "rd"
      intro tt H5 z5 S5 htt
      have d5 := d5'.same S5
      have f5 := f5'.trans (Fix.same S5)
      refine rd_gtup (Tup.of htt) rfl ?_
      walk_at "rd"
      have f35 := f4.trans f5
      have R5 := R3.fix f35 (nep hD).1 (nep hD).2 fun r hr => nep (fr r hr)
      have hrw5 := f35 _ _ (nep rw0).1 (nep rw0).2 hrw
      have f05 := f3.trans f35
      clear R0 R3 hrs hNr S2 S3 z3 hrw d3 f3 d4 f4 f5 f35
      refine ⟨by omega, by omega, ?_⟩
      refine for_range (lo := 0) (n := k) (fun i σ H' => (∃ o2 o7 o8 o9 o10 o11, σ = [some (.ref p), some (.int (k : Nat)), o2, some (.ref D), some (.ref rw'), some (.int sm), some (.int fm), o7, o8, o9, o10, o11]) ∧ Deal H' p q ∧ Fix p q H H' ∧ H' rw' = some (.lst []) ∧ ∃ M, Rows H' D rs M ∧ Sq k M)
        ⟨⟨_, _, _, _, _, _, rfl⟩, d5, f05, hrw5, _, R5, sq_zero⟩ (fun i σ H6 hi pv => ?_) (fun σ H6 pv => ?_)
      · obtain ⟨⟨o2, o7, o8, o9, o10, o11, rfl⟩, d6, f6, hrw6, M6, R6, q6⟩ := pv
        rw [Int.zero_add]
        walk_at "rd"
        refine rd_rng2 ?_
        walk_at "rd"
        refine ⟨_, _, rfl, ⟨by omega, by omega, by omega, by omega⟩, ?_⟩
        have ek : (((k : Nat) : Int) - ((i : Nat) : Int)).toNat = k - i := by omega
        rw [ek]
        refine for_range (lo := ((i : Nat) : Int)) (n := k - i) (fun j σ H' => (∃ o7 o8 o9 o10 o11, σ = [some (.ref p), some (.int (k : Nat)), some (.int (i : Nat)), some (.ref D), some (.ref rw'), some (.int sm), some (.int fm), o7, o8, o9, o10, o11]) ∧ Deal H' p q ∧ Fix p q H H' ∧ H' rw' = some (.lst []) ∧ ∃ M, Rows H' D rs M ∧ Sq k M)
          ⟨⟨_, _, _, _, _, rfl⟩, d6, f6, hrw6, M6, R6, q6⟩ (fun j σ H7 hj pv => ?_) (fun σ H7 pv => ?_)
        · clear q6 R6 hrw6 f6 d6
          obtain ⟨⟨o7, o8, o9, o10, o11, rfl⟩, d7, f7, hrw7, M, R7, q7⟩ := pv
          obtain ⟨c, hc⟩ : ∃ c : Int, ((i : Nat) : Int) + ((j : Nat) : Int) = c := ⟨_, rfl⟩
          rw [hc]
          have c0 : 0 ≤ c := by omega
          have c1 : c < (k : Nat) := by omega
          have i1 : ((i : Nat) : Int) < (k : Nat) := by omega
          have main : ∀ (H8 : Hp) (x : Int), Deal H8 p q → Fix p q H7 H8 → Bd x → ∃ r, atI (rs.map V.ref) ((i : Nat) : Int) = some (.ref r) ∧ H8 D = some (.lst (rs.map V.ref)) ∧ H8 r = some (.lst ((rowOf M (i : Nat)).map V.int)) ∧ c < (((rowOf M (i : Nat)).map V.int).length : Nat) ∧
              ∃ r2, atI (rs.map V.ref) c = some (.ref r2) ∧ upd H8 r (.lst (((rowOf M (i : Nat)).map V.int).set c.toNat (.int x))) D = some (.lst (rs.map V.ref)) ∧
                ∃ M1, upd H8 r (.lst (((rowOf M (i : Nat)).map V.int).set c.toNat (.int x))) r2 = some (.lst ((rowOf M1 c).map V.int)) ∧ ((i : Nat) : Int) < (((rowOf M1 c).map V.int).length : Nat) ∧
                  ∀ H9, H9 = upd (upd H8 r (.lst (((rowOf M (i : Nat)).map V.int).set c.toNat (.int x)))) r2 (.lst (((rowOf M1 c).map V.int).set ((i : Nat) : Int).toNat (.int x))) → Deal H9 p q ∧ Fix p q H H9 ∧ H9 rw' = some (.lst []) ∧ ∃ M, Rows H9 D rs M ∧ Sq k M := fun H8 x d8 f8 bx => by
            have R8 := R7.fix f8 (nep hD).1 (nep hD).2 fun r hr => nep (fr r hr)
            have hrw8 := f8 _ _ (nep rw0).1 (nep rw0).2 hrw7
            have lM := q7.l
            obtain ⟨r, e1, m1, h1, R9⟩ := R8.wr (a := ((i : Nat) : Int)) (b := c) (x := x) (by omega) (by omega)
            obtain ⟨r2, e2, m2, h2, R10⟩ := R9.wr (a := c) (b := ((i : Nat) : Int)) (x := x) c0 (by rw [set2_len]; omega)
            have l1 : (rowOf M (i : Nat)).length = k := q7.r _ (rowOf_mem' (by omega) (by omega))
            have l2 : (rowOf (set2 M (i : Nat) c x) c).length = k := set2_row (by omega) (by omega) q7.r _ (rowOf_mem' c0 (by rw [set2_len]; omega))
            refine ⟨r, e1, R8.at_, h1, by rw [List.length_map, l1]; exact c1, r2, e2, R9.at_, set2 M (i : Nat) c x, h2, by rw [List.length_map, l2]; exact i1, fun H9 e9 => ?_⟩
            subst e9
            obtain ⟨p1, p2⟩ := nep (fr r m1)
            obtain ⟨p3, p4⟩ := nep (fr r2 m2)
            refine ⟨(d8.off p1 p2).off p3 p4, ((f7.trans f8).upd (fr r m1)).upd (fr r2 m2), ?_, _, R10, q7.put (by omega) i1 c0 c1 bx⟩
            rw [upd_ne (fun z => rwn (by rw [z]; exact m2)), upd_ne (fun z => rwn (by rw [z]; exact m1))]
            exact hrw8
          have fin : ∀ (H8 : Hp) (x : Int) (o8 : Option V), Deal H8 p q → Fix p q H7 H8 → Bd x → ∃ r, atI (rs.map V.ref) ((i : Nat) : Int) = some (.ref r) ∧ H8 D = some (.lst (rs.map V.ref)) := fun H8 x o8 d8 f8 bx => by
            obtain ⟨r, h1, h2, _⟩ := main H8 x d8 f8 bx
            exact ⟨r, h1, h2⟩
          clear fin
          walk_at "rd"
          by_cases cf : fm = 0
          · refine iteT' (decide_eq_true cf) ?_
            walk_at "rd"
            obtain ⟨r, e1, hD8, h1, l1, r2, e2, hD9, M1, h2, l2, fin⟩ := main H7 sm d7 (Fix.refl _ _ _) bsm
            refine rd_ixL hD8 e1 ?_
            walk_at "rd"
            refine rd_setL h1 c0 l1 ?_
            walk_at "rd"
            refine rd_ixL hD9 e2 ?_
            walk_at "rd"
            refine rd_setL h2 (by omega) l2 ?_
            walk_at "rd"
            exact ⟨⟨_, _, _, _, _, rfl⟩, fin _ rfl⟩
          · refine iteF' (decide_eq_false cf) ?_
            walk_at "rd"
            refine ⟨p, q, rfl, d7, fun H8 x d8 f8 bx => ?_⟩
            walk_at "rd"
            obtain ⟨r, e1, hD8, h1, l1, r2, e2, hD9, M1, h2, l2, fin⟩ := main H8 x d8 f8 bx
            refine rd_ixL hD8 e1 ?_
            walk_at "rd"
            refine rd_setL h1 c0 l1 ?_
            walk_at "rd"
            refine rd_ixL hD9 e2 ?_
            walk_at "rd"
            refine rd_setL h2 (by omega) l2 ?_
            walk_at "rd"
            exact ⟨⟨_, _, _, _, _, rfl⟩, fin _ rfl⟩
        · obtain ⟨⟨o7, o8, o9, o10, o11, rfl⟩, d7, f7, hrw7, M, R7, q7⟩ := pv
          exact ⟨⟨_, _, _, _, _, _, rfl⟩, d7, f7, hrw7, M, R7, q7⟩
      · obtain ⟨⟨o2, o7, o8, o9, o10, o11, rfl⟩, d6, f6, hrw6, M, R6, q6⟩ := pv
        walk_at "rd"
        refine ⟨by decide, by decide, ?_⟩
        refine for_range (lo := 0) (n := 5) (fun i σ H' => (∃ o2 o7 o8 o9 o10 o11, σ = [some (.ref p), some (.int (k : Nat)), o2, some (.ref D), some (.ref rw'), some (.int sm), some (.int fm), o7, o8, o9, o10, o11]) ∧ Deal H' p q ∧ Fix p q H H' ∧ Rows H' D rs M ∧
            ∃ (ts : List Addr) (S : List (List Int)), H' rw' = some (.lst (ts.map V.ref)) ∧ Paired (RowT H') ts S ∧ S.length = i ∧ ∀ r ∈ S, r.length = k ∧ ∀ x ∈ r, Bd x)
          ⟨⟨_, _, _, _, _, _, rfl⟩, d6, f6, R6, [], [], hrw6, .nil, rfl, by simp⟩ (fun i σ H7 hi pv => ?_) (fun σ H7 pv => ?_)
        · obtain ⟨⟨o2, o7, o8, o9, o10, o11, rfl⟩, d7, f7, R7, ts, S, hrw7, pS, lS, bS⟩ := pv
          have lts := paired_len pS
          walk_at "rd"
          refine rd_ty hrw7 ?_
          walk_at "rd"
          refine ⟨by omega, by omega, fun D2 hD2 => ?_⟩
          obtain ⟨d8, Dp, Dq⟩ := d7.new (o := .lst []) hD2
          refine lc_range (lo := 0) (n := k) (fun j H' => Deal H' p q ∧ Fix p q H7 H' ∧ ∃ ns : List Int, H' D2 = some (.lst (ns.map V.int)) ∧ ns.length = j ∧ ∀ x ∈ ns, Bd x)
            ⟨d8, Fix.new hD2, [], upd_same, rfl, by simp⟩ (fun j H8 hj pv => ?_) (fun H8 pv => ?_)
          · obtain ⟨d9, f9, ns, hns, lns, bns⟩ := pv
            have put : ∀ (H6 : Hp) (x : Int), Deal H6 p q → Fix p q H8 H6 → Bd x → ∃ acc, H6 D2 = some (.lst acc) ∧ acc.length < sizeLine ∧ (Deal (upd H6 D2 (.lst (acc ++ [V.int x]))) p q ∧ Fix p q H7 (upd H6 D2 (.lst (acc ++ [V.int x]))) ∧
                ∃ ms : List Int, upd H6 D2 (.lst (acc ++ [V.int x])) D2 = some (.lst (ms.map V.int)) ∧ ms.length = j + 1 ∧ ∀ m ∈ ms, Bd m) := fun H6 x d6 f6 bx => by
              refine ⟨_, f6 _ _ Dp Dq hns, ?_, d6.off Dp Dq, (f9.trans f6).upd hD2, ns ++ [x], ?_, by simp [lns], fun m hm => ?_⟩
              · rw [List.length_map]
                exact Nat.lt_of_le_of_lt (by omega : ns.length ≤ 100) (by decide)
              · rw [upd_same]; simp
              · rcases List.mem_append.mp hm with z | z
                · exact bns m z
                · rw [List.mem_singleton.mp z]; exact bx
            walk_at "rd"
            refine ⟨rfl, ?_⟩
            walk_at "rd"
            by_cases cf : fm = 1
            · refine iteT' (decide_eq_true cf) ?_
              walk_at "rd"
              exact put H8 sm d9 (Fix.refl _ _ _) bsm
            · refine iteF' (decide_eq_false cf) ?_
              walk_at "rd"
              refine ⟨p, q, rfl, d9, fun H6 x d6 f6 bx => ?_⟩
              exact put H6 x d6 f6 bx
          · obtain ⟨d9, f9, ns, hns, lns, bns⟩ := pv
            walk_at "rd"
            refine rd_tupL hns ?_
            intro t H9 z9 S9 ht
            walk_at "rd"
            have f79 := f9.trans (Fix.same S9)
            have hrw9 := f79 _ _ (nep rw0).1 (nep rw0).2 hrw7
            refine rd_app hrw9 (by rw [List.length_map]; omega) ?_
            walk_at "rd"
            refine ⟨⟨_, _, _, _, _, _, rfl⟩, (d9.same S9).off (nep rw0).1 (nep rw0).2, (f7.trans f79).upd rw0, ?_, ts ++ [t], S ++ [ns], by rw [upd_same]; simp, ?_, by simp [lS], fun r hr => ?_⟩
            · have R9 := R7.fix f79 (nep hD).1 (nep hD).2 fun r hr => nep (fr r hr)
              refine ⟨by rw [upd_ne (Ne.symm rwD)]; exact R9.at_, ?_, R9.nd, R9.out⟩
              have gen : ∀ {l : List Addr} {m : List (List Int)}, Paired (fun r (row : List Int) => H9 r = some (.lst (row.map V.int))) l m → (∀ r ∈ l, r ∈ rs) → Paired (fun r (row : List Int) => upd H9 rw' (.lst (ts.map V.ref ++ [V.ref t])) r = some (.lst (row.map V.int))) l m := fun {l m} z => by
                induction z with
                | nil => intro _; exact .nil
                | cons a _ ih =>
                  intro hl
                  refine .cons ?_ (ih fun r hr => hl r (List.mem_cons_of_mem _ hr))
                  show upd H9 rw' _ _ = _
                  rw [upd_ne (fun z => rwn (by rw [← z]; exact hl _ List.mem_cons_self))]
                  exact a
              exact gen R9.rows fun _ z => z
            · refine Paired.snoc (paired_mono pS fun a c z => rowT_upd (tup_fix f79 d7 z) hrw9) ?_
              exact rowT_upd (Tup.of ht) hrw9
            · rcases List.mem_append.mp hr with z | z
              · exact bS r z
              · rw [List.mem_singleton.mp z]; exact ⟨lns, bns⟩
        · obtain ⟨⟨o2, o7, o8, o9, o10, o11, rfl⟩, d7, f7, R7, ts, S, hrw7, pS, lS, bS⟩ := pv
          have lM := paired_len R7.rows
          walk_at "rd"
          refine ⟨D, rfl, ⟨_, SqL.of R7.at_⟩, fun D3 hD3 => ?_⟩
          refine lc_list (xs := rs.map V.ref) (fun i H' => Same H7 H' ∧ ∃ qs : List Addr, H' D3 = some (.lst (qs.map V.ref)) ∧ Paired (RowT H') qs (M.take i))
            ⟨Same.fresh hD3, [], upd_same, .nil⟩ (fun i H' _ pv => SqL.of (pv.1 _ _ R7.at_)) (fun i x H8 hx pv => ?_) (fun H8 pv => ?_)
          · obtain ⟨S8, qs, hqs, pq⟩ := pv
            rw [List.getElem?_map] at hx
            obtain ⟨r, hr, rfl⟩ := Option.map_eq_some_iff.mp hx
            obtain ⟨row, hrow, hrr⟩ := paired_get R7.rows hr
            have lq := paired_len pq
            rw [List.length_take] at lq
            walk_at "rd"
            refine ⟨rfl, ?_⟩
            walk_at "rd"
            refine rd_tupL (S8 _ _ hrr) ?_
            intro t H9 z9 S9 ht
            have hqs9 := S9 _ _ hqs
            refine ⟨_, hqs9, ?_, same_put (S8.trans S9) hD3, qs ++ [t], by rw [upd_same]; simp, ?_⟩
            · rw [List.length_map]
              exact Nat.lt_of_le_of_lt (by omega : qs.length ≤ 1000) (by decide)
            · rw [List.take_succ, hrow]
              refine Paired.snoc (paired_mono pq fun a c z => rowT_upd (rowT_same z S9) hqs9) ?_
              exact rowT_upd (Tup.of ht) hqs9
          · obtain ⟨S8, qs, hqs, pq⟩ := pv
            rw [List.length_map, lM, List.take_length] at pq
            walk_at "rd"
            refine rd_tupL hqs ?_
            intro t1 H9 z9 S9 ht1
            walk_at "rd"
            have S79 := S8.trans S9
            refine rd_tupL (S79 _ _ hrw7) ?_
            intro t2 H10 z10 S10 ht2
            walk_at "rd"
            intro t3 H11 z11 S11 ht3
            have S7b := (S79.trans S10).trans S11
            have W1 : TabAt H11 t1 M := ⟨qs, Tup.of (S11 _ _ (S10 _ _ ht1)), paired_mono pq fun _ _ z => rowT_same z ((S9.trans S10).trans S11)⟩
            have W2 : TabAt H11 t2 S := ⟨ts, Tup.of (S11 _ _ ht2), paired_mono pS fun _ _ z => rowT_same z S7b⟩
            refine hQ H11 t3 M S (d7.same S7b) (f7.trans (Fix.same S7b)) ⟨t1, t2, Tup.of ht3, W1, W2⟩ ⟨q6.l, q6.r, q6.sy, lS, fun r hr => (bS r hr).1, k1, k4, q6.b, fun r hr => (bS r hr).2⟩
end
end K65

namespace K65
open PySem PySem.Spec PyProof.Rows L2 KX
/-! ### what stays while the deal goes on: all but what lists hold -/
structure Kept (H H' : Hp) : Prop where
  nl : ∀ a o, H a = some o → (∀ xs, o ≠ .lst xs) → H' a = some o
  ls : ∀ a xs, H a = some (.lst xs) → ∃ ys, H' a = some (.lst ys)
theorem Kept.refl {H : Hp} : Kept H H := ⟨fun _ _ h _ => h, fun _ xs h => ⟨xs, h⟩⟩
theorem Kept.trans {H H1 H2 : Hp} (a : Kept H H1) (b : Kept H1 H2) : Kept H H2 :=
  ⟨fun c o h n => b.nl c o (a.nl c o h n) n, fun c xs h => by obtain ⟨ys, e⟩ := a.ls c xs h; exact b.ls c ys e⟩
theorem Kept.same {H H' : Hp} (s : Same H H') : Kept H H' := ⟨fun a o h _ => s a o h, fun a xs h => ⟨xs, s a _ h⟩⟩
theorem Kept.fix {H H' : Hp} {p q : Addr} (f : Fix p q H H') (d : Deal H p q) (d' : Deal H' p q) : Kept H H' := by
  refine ⟨fun a o h n => f.keep d h n, fun a xs h => ?_⟩
  obtain ⟨ns, b, e⟩ := d'
  by_cases h1 : a = p
  · rw [h1]; exact ⟨_, e.hp⟩
  · by_cases h2 : a = q
    · rw [h2]; exact ⟨_, e.hq⟩
    · exact ⟨xs, f a _ h1 h2 h⟩
theorem Kept.upd {H : Hp} {l : Addr} {xs ys : List V} (h : H l = some (.lst xs)) : Kept H (L2.upd H l (.lst ys)) := by
  refine ⟨fun a o e n => ?_, fun a zs e => ?_⟩
  · rw [upd_ne (fun z => by rw [z, h] at e; exact n xs (Option.some.inj e).symm)]; exact e
  · by_cases z : a = l
    · rw [z]; exact ⟨ys, upd_same⟩
    · exact ⟨zs, by rw [upd_ne z]; exact e⟩
theorem tyx_kept {K : PySem.W.Frag} {H H' : Hp} {x : V} {t : Value} (h : TyX K H x t) (s : Kept H H') : TyX K H' x t := by
  have g : ∀ {a o}, H a = some o → (∀ xs, o ≠ .lst xs) → H' a = some o := fun h n => s.nl _ _ h n
  cases h with
  | base h =>
    refine .base ?_
    cases h with
    | lst e =>
      obtain ⟨ys, e'⟩ := s.ls _ _ e
      exact .lst e'
    | frz e => exact .frz (g e fun _ z => by cases z)
    | tup e => exact .tup (g e fun _ z => by cases z)
    | dK e => exact .dK (g e fun _ z => by cases z)
    | dT e => exact .dT (g e fun _ z => by cases z)
    | ins e a b c d f => exact .ins (g e fun _ z => by cases z) a b c d f
    | _ => constructor
  | byt b => exact .byt b
  | set e => exact .set (g e fun _ z => by cases z)
  | kList e c => exact .kList e c
  | kTuple e c => exact .kTuple e c
  | kDict e c => exact .kDict e c
  | fTuple e => exact .fTuple (g e fun _ z => by cases z)
  | fDict e => exact .fDict (g e fun _ z => by cases z)
theorem tup_kept {H H' : Hp} {a : Addr} {xs : List V} (h : Tup H a xs) (s : Kept H H') : Tup H' a xs := by
  rcases h with h | h
  · exact .inl (s.nl _ _ h fun _ z => by cases z)
  · obtain ⟨o, h⟩ := h
    exact .inr ⟨o, s.nl _ _ h fun _ z => by cases z⟩
theorem kin_kept {K : PySem.W.Frag} {H H' : Hp} {x : V} {o : Option Int} (h : Kin K H x o) (s : Kept H H') : Kin K H' x o := by
  cases h with
  | int i => exact .int i
  | oth t h1 h2 h3 => exact .oth (tyx_kept t s) h1 h2 h3
theorem RowIs.kept {K : PySem.W.Frag} {H H' : Hp} {k : Nat} {x : V} {b : Bool} (h : RowIs K H k x b) (s : Kept H H') : RowIs K H' k x b := by
  cases h with
  | ntp t q => exact .ntp (tyx_kept t s) q
  | len h l => exact .len (tup_kept h s) l
  | ok h l p => exact .ok (tup_kept h s) l (paired_mono p fun _ _ z => kin_kept z s)
theorem RowsIs.kept {K : PySem.W.Frag} {H H' : Hp} {k m : Nat} {x : V} {b : Bool} (h : RowsIs K H k m x b) (s : Kept H H') : RowsIs K H' k m x b := by
  cases h with
  | ntp t q => exact .ntp (tyx_kept t s) q
  | len h l => exact .len (tup_kept h s) l
  | ok h l p => exact .ok (tup_kept h s) l (paired_mono p fun _ _ z => z.kept s)
theorem TabAt.kept {H H' : Hp} {t : Addr} {W : List (List Int)} (h : TabAt H t W) (s : Kept H H') : TabAt H' t W := by
  obtain ⟨qs, a, b⟩ := h
  exact ⟨qs, tup_kept a s, paired_mono b fun _ _ z => tup_kept z s⟩
theorem WtAt.kept {H H' : Hp} {t : Addr} {W S : List (List Int)} (h : WtAt H t W S) (s : Kept H H') : WtAt H' t W S := by
  obtain ⟨u, v, a, b, c⟩ := h
  exact ⟨u, v, tup_kept a s, b.kept s, c.kept s⟩
theorem EvIs.kept {K : PySem.W.Frag} {H H' : Hp} {k : Nat} {x : V} {b : Bool} (h : EvIs K H k x b) (s : Kept H H') : EvIs K H' k x b := by
  cases h with
  | no r => exact .no (r.kept s)
  | tab h l r => exact .tab (h.kept s) l r
theorem WgIs.kept {K : PySem.W.Frag} {H H' : Hp} {k : Nat} {x : V} {b : Bool} (h : WgIs K H k x b) (s : Kept H H') : WgIs K H' k x b := by
  cases h with
  | ntp t q => exact .ntp (tyx_kept t s) q
  | len h l => exact .len (tup_kept h s) l
  | odd h e => exact .odd (tup_kept h s) (e.kept s)
  | two h e r => exact .two (tup_kept h s) (e.kept s) (r.kept s)
/-! ### spoilt tables -/
theorem ty_list {K : PySem.W.Frag} {H : Hp} {a : Addr} {xs : List V} (h : H a = some (.lst xs)) : TyX K H (.ref a) (.type "list") := .base (.lst h)
theorem k_list : kitB "list" "tuple" = some false := by decide +kernel
theorem k_int : kitB "int" "tuple" = some false := by decide +kernel
theorem k_non : kitB "NoneType" "tuple" = some false := by decide +kernel
theorem k_str : kitB "str" "tuple" = some false := by decide +kernel
theorem kn_non {K : PySem.W.Frag} {H : Hp} : Kin K H .non none := .oth (b1 := false) (b2 := false) (.base .non) (by decide +kernel) (by decide +kernel) rfl
theorem kn_bl {K : PySem.W.Frag} {H : Hp} (b : Bool) : Kin K H (.bl b) none := .oth (b1 := true) (b2 := true) (.base (.bl b)) (by decide +kernel) (by decide +kernel) rfl
theorem kn_str {K : PySem.W.Frag} {H : Hp} (x : Str) : Kin K H (.str x) none := .oth (b1 := false) (b2 := false) (.base (.str x)) (by decide +kernel) (by decide +kernel) rfl
theorem kn_tup {K : PySem.W.Frag} {H : Hp} {a : Addr} {xs : List V} (h : Tup H a xs) : Kin K H (.ref a) none := .oth (b1 := false) (b2 := false) h.ty (by decide +kernel) (by decide +kernel) rfl
theorem paired_set {α β : Type} {F : α → β → Prop} {l : List α} {m : List β} {a : α} {b : β} (h : Paired F l m) (f : F a b) : ∀ i : Nat, Paired F (l.set i a) (m.set i b) := by
  induction h with
  | nil => intro i; exact .nil
  | cons c t ih =>
    intro i
    cases i with
    | zero => exact .cons f t
    | succ i => exact .cons c (ih i)
theorem all_set_false {bs : List Bool} {i : Nat} (h : i < bs.length) : (bs.set i false).all id = false := by
  rw [List.all_eq_false]
  exact ⟨false, List.mem_set h _, by decide⟩
theorem cut_set {α : Type} (xs : List α) {i : Nat} (y : α) (h : i < xs.length) : (xs.take i ++ [y]) ++ xs.drop (i + 1) = xs.set i y := by
  rw [List.set_eq_take_append_cons_drop, if_pos h, List.append_assoc]; rfl
theorem row_bad {K : PySem.W.Frag} {H : Hp} {k : Nat} {a : Addr} {r : List Int} {c : Nat} {x : V} (h : Tup H a ((r.map V.int).set c x)) (l : r.length = k) (hc : c < k) (kx : Kin K H x none) : RowIs K H k (.ref a) false := by
  have z : RowIs K H k (.ref a) (((r.map some).set c none).all Option.isSome) := .ok h (by rw [List.length_set, List.length_map]; exact l) (paired_set (kin_ints K H r) kx c)
  have e : ((r.map some).set c none).all Option.isSome = false := by
    rw [List.all_eq_false]
    exact ⟨none, List.mem_set (by rw [List.length_map]; omega) _, by decide⟩
  rwa [e] at z
theorem tab_rowis {K : PySem.W.Frag} {H : Hp} {k : Nat} {qs : List Addr} {W : List (List Int)} (z : Paired (RowT H) qs W) (hr : ∀ r ∈ W, r.length = k) : Paired (RowIs K H k) (qs.map V.ref) (W.map fun _ => true) := by
  induction z with
  | nil => exact .nil
  | @cons q r qs W a _ ih =>
    refine .cons ?_ (ih fun r h => hr r (List.mem_cons_of_mem _ h))
    have e : (r.map some).all Option.isSome = true := by simp
    have z : RowIs K H k (.ref q) ((r.map some).all Option.isSome) := .ok a (by rw [List.length_map]; exact hr r List.mem_cons_self) (kin_ints K H r)
    rwa [e] at z
theorem rows_bad {K : PySem.W.Frag} {H : Hp} {k m i : Nat} {t : Addr} {qs : List Addr} {W : List (List Int)} {y : V} (p : Paired (RowT H) qs W) (hr : ∀ r ∈ W, r.length = k) (l : W.length = m) (hi : i < m) (h : Tup H t ((qs.map V.ref).set i y)) (b : RowIs K H k y false) : RowsIs K H k m (.ref t) false := by
  have lq := paired_len p
  have z : RowsIs K H k m (.ref t) (((W.map fun _ => true).set i false).all id) := .ok h (by rw [List.length_set, List.length_map, lq, l]) (paired_set (tab_rowis p hr) b i)
  rwa [all_set_false (by rw [List.length_map, l]; exact hi)] at z
theorem evenB_iff {k : Nat} {M : List (List Int)} : evenB k M = true ↔ ∀ a b : Nat, a < k → b < a → at2 M (a : Nat) (b : Nat) = at2 M (b : Nat) (a : Nat) := by
  unfold evenB
  rw [List.all_eq_true]
  constructor
  · intro h a b ha hb
    have := h a (List.mem_range.mpr ha)
    rw [List.all_eq_true] at this
    exact of_decide_eq_true (this b (List.mem_range.mpr hb))
  · intro h a ha
    rw [List.all_eq_true]
    intro b hb
    exact decide_eq_true (h a b (List.mem_range.mp ha) (List.mem_range.mp hb))
theorem Wg.even {k : Nat} {W S : List (List Int)} (g : Wg k W S) : evenB k W = true := evenB_iff.mpr fun a b ha hb => g.sy _ _ (by omega) (by omega) (by omega) (by omega)
theorem Wg.evIs {K : PySem.W.Frag} {H : Hp} {k : Nat} {W S : List (List Int)} {u : Addr} (g : Wg k W S) (h : TabAt H u W) : EvIs K H k (.ref u) true := by
  have z : EvIs K H k (.ref u) (evenB k W) := .tab h g.lW g.rW
  rwa [g.even] at z
theorem Wg.wgIs {K : PySem.W.Frag} {H : Hp} {k : Nat} {W S : List (List Int)} {t : Addr} (g : Wg k W S) (h : WtAt H t W S) : WgIs K H k (.ref t) true := by
  obtain ⟨u, v, ht, hu, hv⟩ := h
  exact .two ht (g.evIs hu) (hv.rows g.lS g.rS)
theorem Wg.wgOth {K : PySem.W.Frag} {H : Hp} {k m : Nat} {W S : List (List Int)} {t : Addr} (g : Wg k W S) (h : WtAt H t W S) (n : m ≠ k) : WgIs K H m (.ref t) false := by
  obtain ⟨u, v, ht, hu, hv⟩ := h
  obtain ⟨qs, hq, hp⟩ := hu
  refine .odd ht (.no (.len hq ?_))
  rw [List.length_map, paired_len hp, g.lW]
  exact Ne.symm n
/-- one number of a table bent: it is even no more -/
theorem odd_bent {k : Nat} {W S : List (List Int)} (g : Wg k W S) {a b x : Int} (a0 : 0 ≤ a) (a1 : a < (k : Nat)) (b0 : 0 ≤ b) (b1 : b < (k : Nat)) (ne : a ≠ b) (hx : x ≠ at2 W a b) : evenB k (set2 W a b x) = false := by
  cases e : evenB k (set2 W a b x) with
  | false => rfl
  | true =>
    have h := evenB_iff.mp e
    have lW := g.lW
    have la : (rowOf W a).length = k := g.rowW a0 a1
    have s : at2 (set2 W a b x) a b = at2 (set2 W a b x) b a := by
      obtain ⟨m, rfl⟩ := Int.eq_ofNat_of_zero_le a0
      obtain ⟨n, rfl⟩ := Int.eq_ofNat_of_zero_le b0
      by_cases c : n < m
      · exact h m n (by omega) c
      · exact (h n m (by omega) (by omega)).symm
    rw [at2_set2 a0 (by omega) b0 (by omega) a0 b0, if_pos ⟨rfl, rfl⟩, at2_set2 a0 (by omega) b0 (by omega) b0 a0, if_neg (fun z => ne z.2), g.sy b a b0 b1 a0 a1] at s
    exact absurd s hx
end K65

namespace K65
open PySem PySem.Spec PyProof.Rows L2 KX
local macro_rules | `(tactic| walk_at "rd1") => `(tactic| first
  | with_reducible refine rd_seq ?_
  | with_reducible refine rd_for ?_
  | with_reducible refine rd_lc ?_
  | with_reducible refine rd_asg ?_
  | ((with_reducible refine' rd_var ?rdv ?_); (case rdv => exact rfl))
  | with_reducible refine rd_c ?_
  | with_reducible refine rd_op ?_
  | with_reducible refine rd_un ?_
  | with_reducible refine rd_cons ?_
  | with_reducible refine rd_nil ?_
  | with_reducible refine rd_call ?_
  | with_reducible refine rd_cb ?_
  | with_reducible refine rd_tB ?_
  | with_reducible refine rd_test ?_
  | with_reducible refine rd_bl ?_
  | with_reducible refine rd_rI0 ?_
  | with_reducible refine rd_eqI ?_
  | with_reducible refine rd_neI ?_
  | with_reducible refine rd_rU ?_
  | with_reducible refine rd_name ?_
  | with_reducible refine rd_ifs ?_
  | with_reducible refine rd_and ?_
  | with_reducible refine rd_or ?_
  | with_reducible refine rd_not ?_
  | with_reducible refine rd_yes ?_
  | with_reducible refine rd_andV ?_
  | with_reducible refine rd_orV ?_
  | with_reducible refine rd_notV ?_
  | with_reducible refine rd_if ?_
  | with_reducible refine rd_isN ?_
  | with_reducible refine rd_iT ?_
  | with_reducible refine rd_iF ?_
  | with_reducible refine rd_ret ?_
  | with_reducible refine rd_retN ?_
  | with_reducible refine rd_drop ?_
  | with_reducible refine rd_next ?_
  | with_reducible refine rd_cont ?_
  | with_reducible refine rd_brk ?_
  | with_reducible refine rd_nx ?_
  | with_reducible refine rd_rt ?_
  | with_reducible refine rd_ct ?_
  | with_reducible refine rd_bk ?_
  | with_reducible refine rd_par ?_
  | with_reducible refine rd_par3 ?_
  | with_reducible refine rd_par2 ?_
  | with_reducible refine rd_par33 ?_
  | with_reducible refine rd_gcons ?_
  | with_reducible refine rd_gnil ?_
  | with_reducible refine rd_sub ?_
  | with_reducible refine rd_tup ?_
  | with_reducible refine rd_lst ?_
  | ((with_reducible refine rd_tupT ?hl ?_); (case hl => exact Nat.le_of_ble_eq_true rfl))
  | ((with_reducible refine rd_lstT ?hl ?_); (case hl => exact Nat.le_of_ble_eq_true rfl))
  | with_reducible refine rd_bm ?_
  | with_reducible refine rd_bm0 ?_
  | with_reducible refine rd_sl ?_
  | with_reducible refine rd_noP ?_
  | with_reducible refine rd_part ?_
  | with_reducible refine rd_int ?_
  | with_reducible refine rd_int1 ?_
  | with_reducible refine rd_fld ?_
  | with_reducible refine rd_then ?_
  | with_reducible refine rd_raise ?_
  | with_reducible refine rd_one ?_
  | with_reducible refine rd_sfld ?_
  | with_reducible refine rd_ilist ?_
  | with_reducible refine rd_itup ?_
  | with_reducible refine rd_rng1 ?_
  | with_reducible refine rd_enum ?_
  | with_reducible refine rd_enumT ?_)
local macro_rules | `(tactic| walk_at "rd") => `(tactic| repeat (walk_at "rd1"))
def spSpoilt (K : PySem.W.Frag) : L2.Sp := fun vs H Q _ => ∃ (p q t : Addr) (k : Nat) (W S : List (List Int)), vs = [.ref p, .int (k : Nat), .ref t] ∧ Deal H p q ∧ WtAt H t W S ∧ Wg k W S ∧
  ∀ H' x, Deal H' p q → Fix p q H H' → WgIs K H' k x false → Q x H'
theorem ite_both {c : Bool} {U B : Prop} (hB : B) (hU : c = true → B → U) : if c = true then U else B := by
  cases h : c with
  | true => rw [if_pos rfl]; exact hU h hB
  | false => rw [if_neg (by decide)]; exact hB
section
variable {P : Program} {w : World} {K : PySem.W.Frag} {mg : Str → Option Value} {base : Heap} (T : TX K mg)
theorem G__law_spoilt : FnOk P w K mg base CX0 3 T.f__law_spoilt T.d__law_spoilt ["deal", "kinds", "weighing"] (spSpoilt K) := by
  refine T.F__law_spoilt.ok sc__law_spoilt (fun vs H Q E h => ?_) fun cdv A outer s H vs Q E hr h => ⟨_, (pss_cons (ps_asg (pv 2) (pg_tupK (K := K) (n := 2) (by rfl) (pgs_cons (pg_name (i := 3) sc__law_spoilt.nd rfl (.inl rfl)) (pgs_cons (pg_name (i := 4) sc__law_spoilt.nd rfl (.inl rfl)) pgs_nil)))) (pss_cons (ps_par3 (i := 5) (j := 6) (l := 7) (by rfl) sc__law_spoilt.nd rfl rfl rfl (by decide) (by decide) (by decide) rfl rfl rfl (pa_cons (pe_call (G__law_any T) (hr.mono (by decide)) (by rfl) T.m__law_any T.F__law_any.kp T.b__law_any .nil pass0 (by exact (pa_cons (pv 0) (pa_cons (pv 1) pa_nil)))) (pa_cons (pe_call (G__law_any T) (hr.mono (by decide)) (by rfl) T.m__law_any T.F__law_any.kp T.b__law_any .nil pass0 (by exact (pa_cons (pv 0) (pa_cons pe_int pa_nil)))) (pa_cons (pe_call (G__law_any T) (hr.mono (by decide)) (by rfl) T.m__law_any T.F__law_any.kp T.b__law_any .nil pass0 (by exact (pa_cons (pv 0) (pa_cons pe_int pa_nil)))) pa_nil))) (by rfl)) (pss_cons (ps_set (i := 8) sc__law_spoilt.nd rfl (.inl rfl) (pe_call (G__law_of T) (hr.mono (by decide)) (by rfl) T.m__law_of T.F__law_of.kp T.b__law_of .nil pass0 (by exact (pa_cons (pv 0) (pa_cons (pe_lst (pa_cons pe_non (pa_cons pe_bl (pa_cons pe_str (pa_cons (pe_tup (pa_cons pe_int pa_nil)) (pa_cons pe_str pa_nil)))))) pa_nil))))) (pss_cons (ps_par (i := 9) (j := 10) (by rfl) sc__law_spoilt.nd rfl rfl (by decide) rfl rfl (pa_cons (pe_callTy (cr_listK (K := K)) (by rfl) T.n_list (by decide +kernel) (by exact (pa_cons (pe_ix (ix_tupK (K := K)) (pv 3) (pv 5) (fun _ _ => rfl)) pa_nil))) (pa_cons (pe_callTy (cr_listK (K := K)) (by rfl) T.n_list (by decide +kernel) (by exact (pa_cons (pe_ix (ix_tupK (K := K)) (pv 4) (pv 6) (fun _ _ => rfl)) pa_nil))) pa_nil)) (by rfl)) (pss_cons (ps_asg (pv 8) (pg_sub (pv 9) (pe_call (G__law_any T) (hr.mono (by decide)) (by rfl) T.m__law_any T.F__law_any.kp T.b__law_any .nil pass0 (by exact (pa_cons (pv 0) (pa_cons (pv 1) pa_nil)))) set_list)) (pss_cons (ps_asg (pv 8) (pg_sub (pv 10) (pe_call (G__law_any T) (hr.mono (by decide)) (by rfl) T.m__law_any T.F__law_any.kp T.b__law_any .nil pass0 (by exact (pa_cons (pv 0) (pa_cons (pv 1) pa_nil)))) set_list)) (pss_cons (ps_if (pt_cmpR op_eq (pv 7) pe_int (nomark _)) (pss_one (ps_ret (pe_tup (pa_cons (pe_op op_catW (pe_op op_catW (pe_slice sl_tupW (pv 3) po_none (po_some (pv 5))) (pe_tup (pa_cons (pe_tupleK (K := K) (by rfl) T.n_tuple (pv 9)) pa_nil))) (pe_slice sl_tupW (pv 3) (po_some (pe_op op_add (pv 5) pe_int)) po_none)) (pa_cons (pv 4) pa_nil))))) pss_nil) (pss_cons (ps_if (pt_cmpR op_eq (pv 7) pe_int (nomark _)) (pss_one (ps_ret (pe_tup (pa_cons (pv 3) (pa_cons (pe_op op_catW (pe_op op_catW (pe_slice sl_tupW (pv 4) po_none (po_some (pv 6))) (pe_tup (pa_cons (pe_tupleK (K := K) (by rfl) T.n_tuple (pv 10)) pa_nil))) (pe_slice sl_tupW (pv 4) (po_some (pe_op op_add (pv 6) pe_int)) po_none)) pa_nil))))) pss_nil) (pss_cons (ps_if (pt_cmpR op_eq (pv 7) pe_int (nomark _)) (pss_one (ps_ret (pe_tup (pa_cons (pv 3) (pa_cons (pe_op op_catW (pe_op op_catW (pe_slice sl_tupW (pv 4) po_none (po_some (pv 6))) (pe_tup (pa_cons (pe_op op_catW (pe_ix (ix_tupK (K := K)) (pv 4) (pv 6) (fun _ _ => rfl)) (pe_tup (pa_cons pe_int pa_nil))) pa_nil))) (pe_slice sl_tupW (pv 4) (po_some (pe_op op_add (pv 6) pe_int)) po_none)) pa_nil))))) pss_nil) (pss_cons (ps_if (pt_cmpR op_eq (pv 7) pe_int (nomark _)) (pss_one (ps_ret (pe_tup (pa_cons (pv 3) (pa_cons (pe_op op_catW (pe_op op_catW (pe_slice sl_tupW (pv 4) po_none (po_some (pv 6))) (pe_tup (pa_cons (pe_slice sl_tupW (pe_ix (ix_tupK (K := K)) (pv 4) (pv 6) (fun _ _ => rfl)) (po_some pe_int) po_none) pa_nil))) (pe_slice sl_tupW (pv 4) (po_some (pe_op op_add (pv 6) pe_int)) po_none)) pa_nil))))) pss_nil) (pss_cons (ps_if (pt_cmpR op_eq (pv 7) pe_int (nomark _)) (pss_one (ps_ret (pe_tup (pa_cons (pv 3) (pa_cons (pe_op op_catW (pe_slice sl_tupW (pv 4) po_none (po_some (pv 6))) (pe_slice sl_tupW (pv 4) (po_some (pe_op op_add (pv 6) pe_int)) po_none)) pa_nil))))) pss_nil) (pss_cons (ps_if (pt_cmpR op_eq (pv 7) pe_int (nomark _)) (pss_one (ps_ret (pe_tup (pa_cons (pv 3) (pa_cons (pe_op op_catW (pv 4) (pe_tup (pa_cons (pe_ix (ix_tupK (K := K)) (pv 4) (pv 6) (fun _ _ => rfl)) pa_nil))) pa_nil))))) pss_nil) (pss_cons (ps_if (pt_cmpR op_eq (pv 7) pe_int (nomark _)) (pss_one (ps_ret (pe_tup (pa_cons (pv 3) (pa_cons (pe_op op_catW (pe_op op_catW (pe_slice sl_tupW (pv 4) po_none (po_some (pv 6))) (pe_tup (pa_cons (pe_callTy (cr_listK (K := K)) (by rfl) T.n_list (by decide +kernel) (by exact (pa_cons (pe_ix (ix_tupK (K := K)) (pv 4) (pv 6) (fun _ _ => rfl)) pa_nil))) pa_nil))) (pe_slice sl_tupW (pv 4) (po_some (pe_op op_add (pv 6) pe_int)) po_none)) pa_nil))))) pss_nil) (pss_cons (ps_if (pt_cmpR op_eq (pv 7) pe_int (nomark _)) (pss_one (ps_ret (pe_tup (pa_cons (pe_op op_catW (pe_op op_catW (pe_slice sl_tupW (pv 3) po_none (po_some (pv 5))) (pe_tup (pa_cons (pe_callTy (cr_listK (K := K)) (by rfl) T.n_list (by decide +kernel) (by exact (pa_cons (pe_ix (ix_tupK (K := K)) (pv 3) (pv 5) (fun _ _ => rfl)) pa_nil))) pa_nil))) (pe_slice sl_tupW (pv 3) (po_some (pe_op op_add (pv 5) pe_int)) po_none)) (pa_cons (pv 4) pa_nil))))) pss_nil) (pss_cons (ps_if (pt_cmpR op_eq (pv 7) pe_int (nomark _)) (pss_one (ps_ret (pe_call (G__law_of T) (hr.mono (by decide)) (by rfl) T.m__law_of T.F__law_of.kp T.b__law_of .nil pass0 (by exact (pa_cons (pv 0) (pa_cons (pe_lst (pa_cons (pe_lst (pa_cons (pv 3) (pa_cons (pv 4) pa_nil))) (pa_cons (pe_tup (pa_cons (pv 3) (pa_cons (pe_callTy (cr_listK (K := K)) (by rfl) T.n_list (by decide +kernel) (by exact (pa_cons (pv 4) pa_nil))) pa_nil))) (pa_cons (pe_tup (pa_cons (pe_callTy (cr_listK (K := K)) (by rfl) T.n_list (by decide +kernel) (by exact (pa_cons (pv 3) pa_nil))) (pa_cons (pv 4) pa_nil))) (pa_cons (pe_tup (pa_cons (pv 3) pa_nil)) (pa_cons (pe_tup (pa_cons (pv 3) (pa_cons (pv 4) (pa_cons (pe_tup pa_nil) pa_nil)))) pa_nil)))))) pa_nil)))))) pss_nil) (pss_cons (ps_if (pt_cmpR op_eq (pv 7) pe_int (nomark _)) (pss_one (ps_ret (pe_tup (pa_cons (pe_op op_catW (pv 3) (pe_tup (pa_cons (pe_ix (ix_tupK (K := K)) (pv 3) (pv 5) (fun _ _ => rfl)) pa_nil))) (pa_cons (pv 4) pa_nil))))) pss_nil) (pss_cons (ps_if (PW.pt (pw_and (pt_cmpR op_eq (pv 7) pe_int (nomark _)) (pw_and1 (pt_cmpR op_gt (pv 1) pe_int (nomark _))))) (pss_cons (ps_set (i := 9) sc__law_spoilt.nd rfl (.inl rfl) (pe_callTy (cr_listK (K := K)) (by rfl) T.n_list (by decide +kernel) (by exact (pa_cons (pe_ix (ix_tupK (K := K)) (pv 3) (pv 5) (fun _ _ => rfl)) pa_nil)))) (pss_cons (ps_set (i := 11) sc__law_spoilt.nd rfl (.inl rfl) (pe_op op_mod (pe_callTy call_int1 (by rfl) T.n_int (by decide +kernel) (by exact (pa_cons (pe_op op_add (pe_op op_add (pv 5) pe_int) (pe_call (G__law_any T) (hr.mono (by decide)) (by rfl) T.m__law_any T.F__law_any.kp T.b__law_any .nil pass0 (by exact (pa_cons (pv 0) (pa_cons (pe_op op_sub (pv 1) pe_int) pa_nil))))) pa_nil))) (pv 1))) (pss_cons (ps_asg (pe_op op_add (pe_op op_add (pe_ix (ix_listK (K := K)) (pv 9) (pv 11) (fun _ _ => rfl)) pe_int) (pe_call (G__law_any T) (hr.mono (by decide)) (by rfl) T.m__law_any T.F__law_any.kp T.b__law_any .nil pass0 (by exact (pa_cons (pv 0) (pa_cons pe_int pa_nil))))) (pg_sub (pv 9) (pv 11) set_list)) (pss_one (ps_ret (pe_tup (pa_cons (pe_op op_catW (pe_op op_catW (pe_slice sl_tupW (pv 3) po_none (po_some (pv 5))) (pe_tup (pa_cons (pe_tupleK (K := K) (by rfl) T.n_tuple (pv 9)) pa_nil))) (pe_slice sl_tupW (pv 3) (po_some (pe_op op_add (pv 5) pe_int)) po_none)) (pa_cons (pv 4) pa_nil)))))))) pss_nil) (pss_cons (ps_if (pt_cmpR op_eq (pv 7) pe_int (nomark _)) (pss_one (ps_ret (pe_tup (pa_cons (pe_slice sl_tupW (pv 3) (po_some pe_int) po_none) (pa_cons (pv 4) pa_nil))))) pss_nil) (pss_one (ps_ret (pe_call (G__law_of T) (hr.mono (by decide)) (by rfl) T.m__law_of T.F__law_of.kp T.b__law_of .nil pass0 (by exact (pa_cons (pv 0) (pa_cons (pe_lst (pa_cons pe_non (pa_cons pe_int (pa_cons pe_str (pa_cons (pe_tup pa_nil) (pa_cons (pe_tup (pa_cons (pv 3) (pa_cons pe_non pa_nil))) (pa_cons (pe_tup (pa_cons pe_non (pa_cons (pv 4) pa_nil))) (pa_cons (pe_tup (pa_cons (pv 4) (pa_cons (pv 3) pa_nil))) (pa_cons (pe_tup (pa_cons (pe_ix (ix_tupK (K := K)) (pv 3) (pv 5) (fun _ _ => rfl)) (pa_cons (pv 4) pa_nil))) pa_nil))))))))) pa_nil)))))))))))))))))))))))), ?_⟩
  · obtain ⟨p, q, t, k, W, S, rfl, _⟩ := h
    rfl
  · obtain ⟨p, q, t, k, W, S, rfl, d, hw, g, hQ⟩ := h
    obtain ⟨u, v, ht, hu, hv⟩ := hw
    have k1 := g.k1
    have k4 := g.k4
    walk_at "rd"
    refine rd_gtup ht rfl ?_
    walk_at "rd"
    refine ⟨p, q, k, rfl, d, by omega, by omega, fun H1 i d1 f1 i0 i1 => ?_⟩
    walk_at "rd"
    refine ⟨p, q, 5, rfl, d1, by decide, by decide, fun H2 j d2 f2 j0 j1 => ?_⟩
    walk_at "rd"
    refine ⟨p, q, 14, rfl, d2, by decide, by decide, fun H3 f d3 f3 ff0 ff1 => ?_⟩
    have F3 := (f1.trans f2).trans f3
    have K3 := Kept.fix F3 d d3
    walk_at "rd"
    intro x1 H4 z4 S4 hx1
    walk_at "rd"
    intro x2 H5 z5 S5 hx2
    have S45 := S4.trans S5
    have n5 := (d3.same S4).nes z5
    walk_at "rd"
    refine ⟨p, q, x2, _, rfl, d3.same S45, n5.1, n5.2, hx2, by show 0 < 5; decide, by show 5 < 1000; decide, fun H6 b hb d6 f6 => ?_⟩
    have kb : Kin K H6 b none := by
      have hx6 := Kept.nl (Kept.fix f6 (d3.same S45) d6) _ _ (S5 _ _ hx1) (fun _ z => by cases z)
      simp only [List.mem_cons, List.not_mem_nil, or_false] at hb
      rcases hb with h | h | h | h | h <;> subst h
      · exact kn_non
      · exact kn_bl _
      · exact kn_str _
      · exact kn_tup (Tup.of hx6)
      · exact kn_str _
    have F6 := (F3.trans (Fix.same S45)).trans f6
    have K6 := Kept.fix F6 d d6
    have hu6 := hu.kept K6
    have hv6 := hv.kept K6
    clear hb hx1 hx2 z4 z5 S4 S5 S45 n5 F3 K3 f1 f2 f3 f6 d1 d2 d3 K6
    walk_at "rd"
    have rWi : (rowOf W i).length = k := g.rowW i0 (by omega)
    have rSj : (rowOf S j).length = k := g.rowS j0 (by omega)
    refine rd_at2 hu6 i0 (by rw [g.lW]; exact i1) fun r1 hr1 => ?_
    walk_at "rd"
    refine rd_list (.inr hr1.sq) ?_
    intro rl H7 z7 S7 hrl
    walk_at "rd"
    refine rd_at2 (hv6.same S7) j0 (by rw [g.lS]; exact j1) fun r2 hr2 => ?_
    walk_at "rd"
    refine rd_list (.inr hr2.sq) ?_
    intro ll H8 z8 S8 hll
    have d7 := d6.same S7
    have d8 := d7.same S8
    have nrl := d6.nes z7
    have nll := d7.nes z8
    have nlr : rl ≠ ll := fun z => by rw [← z, hrl] at z8; cases z8
    walk_at "rd"
    refine ⟨p, q, k, rfl, d8, by omega, by omega, fun H9 c d9 f9 c0 c1 => ?_⟩
    walk_at "rd"
    have hrl9 := f9 _ _ nrl.1 nrl.2 (S8 _ _ hrl)
    have hll9 := f9 _ _ nll.1 nll.2 hll
    refine rd_setL hrl9 c0 (by rw [List.length_map, rWi]; exact c1) ?_
    have rl0 : H rl = none := F6.free d6 z7
    have ll0 : H ll = none := F6.free d6 (S7.free z8)
    have F9 := ((F6.trans (Fix.same (S7.trans S8))).trans f9).upd (o := .lst (((rowOf W i).map V.int).set c.toNat b)) rl0
    have K69 : Kept H6 (upd H9 rl (.lst (((rowOf W i).map V.int).set c.toNat b))) := ((Kept.same (S7.trans S8)).trans (Kept.fix f9 d8 d9)).trans (Kept.upd hrl9)
    have d10 : Deal (upd H9 rl (.lst (((rowOf W i).map V.int).set c.toNat b))) p q := d9.off nrl.1 nrl.2
    have hrl10 : upd H9 rl (.lst (((rowOf W i).map V.int).set c.toNat b)) rl = some (.lst (((rowOf W i).map V.int).set c.toNat b)) := upd_same
    have hll10 : upd H9 rl (.lst (((rowOf W i).map V.int).set c.toNat b)) ll = some (.lst ((rowOf S j).map V.int)) := by rw [upd_ne (Ne.symm nlr)]; exact hll9
    generalize upd H9 rl (.lst (((rowOf W i).map V.int).set c.toNat b)) = H10 at F9 K69 d10 hrl10 hll10
    clear f9 d9 hrl9 hll9 d8 d7 hrl hll z7 z8 S7 S8 hr1 hr2
    walk_at "rd"
    refine ⟨p, q, k, rfl, d10, by omega, by omega, fun H11 e d11 f11 e0 e1 => ?_⟩
    walk_at "rd"
    have hll11 := f11 _ _ nll.1 nll.2 hll10
    refine rd_setL hll11 e0 (by rw [List.length_map, rSj]; exact e1) ?_
    have F12 := (F9.trans f11).upd (o := .lst (((rowOf S j).map V.int).set e.toNat b)) ll0
    have K12 : Kept H6 (upd H11 ll (.lst (((rowOf S j).map V.int).set e.toNat b))) := (K69.trans (Kept.fix f11 d10 d11)).trans (Kept.upd hll11)
    have d12 : Deal (upd H11 ll (.lst (((rowOf S j).map V.int).set e.toNat b))) p q := d11.off nll.1 nll.2
    have hll12 : upd H11 ll (.lst (((rowOf S j).map V.int).set e.toNat b)) ll = some (.lst (((rowOf S j).map V.int).set e.toNat b)) := upd_same
    have hrl12 : upd H11 ll (.lst (((rowOf S j).map V.int).set e.toNat b)) rl = some (.lst (((rowOf W i).map V.int).set c.toNat b)) := by
      rw [upd_ne nlr]; exact f11 _ _ nrl.1 nrl.2 hrl10
    generalize upd H11 ll (.lst (((rowOf S j).map V.int).set e.toNat b)) = H12 at F12 K12 d12 hll12 hrl12
    clear f11 d11 hll11 hrl10 hll10 F9 K69 d10
    have hu0 := hu6.kept K12
    have hv0 := hv6.kept K12
    have kb0 := kin_kept kb K12
    clear hu hv ht hu6 hv6 kb K12 F6 d6
    have evW : EvIs K H12 k (.ref u) true := g.evIs hu0
    have rsS : RowsIs K H12 k 5 (.ref v) true := hv0.rows g.lS g.rS
    have qs0 := hu0
    have ts0 := hv0
    obtain ⟨qs, hq, pq⟩ := qs0
    obtain ⟨ts, hts, pt⟩ := ts0
    have lqs := paired_len pq
    have lts := paired_len pt
    have lW := g.lW
    have lS := g.lS
    have li : ((i.toNat : Nat) : Int) = i := by omega
    have lj : ((j.toNat : Nat) : Int) = j := by omega
    have ci : (i + 1).toNat = i.toNat + 1 := by omega
    have cj : (j + 1).toNat = j.toNat + 1 := by omega
    have out : ∀ {H' : Hp} {x : V}, Same H12 H' → WgIs K H' k x false → Q x H' := fun S h => hQ _ _ (d12.same S) (F12.trans (Fix.same S)) h
    /- a tuple with one item another -/
    have mid : ∀ {H' : Hp} {a : Addr} {zs : List V} {m : Int} {y : Addr} {R : VK}, Same H12 H' → Tup H12 a zs → 0 ≤ m → m < (zs.length : Nat) → Tup H' y [] → True := fun _ _ _ _ _ => trivial
    clear mid
    walk_at "rd"
    by_cases c0' : f = 0
    · refine iteT' (decide_eq_true c0') ?_
      walk_at "rd"
      refine rd_slW hq fun H1 a1 S1 h1 => ?_
      rw [cut_take _ i0 (by rw [List.length_map, lqs, lW]; omega)] at h1
      walk_at "rd"
      refine rd_tupL (S1 _ _ hrl12) ?_
      intro a2 H2 z2 S2 h2
      walk_at "rd"
      intro a3 H3 z3 S3 h3
      refine rd_catW ((h1.same S2).same S3) (Tup.of h3) (by rw [List.length_take, List.length_map]; show _ + 1 ≤ _; omega) fun H4 a4 S4 h4 => ?_
      walk_at "rd"
      have S14 := ((S1.trans S2).trans S3).trans S4
      refine rd_slW (hq.same S14) fun H5 a5 S5 h5 => ?_
      rw [cut_drop _ (by omega) (by rw [List.length_map, lqs, lW]; omega), ci] at h5
      refine rd_catW (h4.same S5) h5 (by simp; omega) fun H6 a6 S6 h6 => ?_
      rw [cut_set _ _ (by rw [List.length_map, lqs, lW]; omega)] at h6
      walk_at "rd"
      intro a7 H7 z7 S7 h7
      have S17 := ((S14.trans S5).trans S6).trans S7
      refine out S17 (.odd (Tup.of h7) (.no (rows_bad (paired_mono pq fun _ _ z => rowT_same z S17) g.rW lW (i := i.toNat) (by omega) (h6.same S7) ?_)))
      exact row_bad (Tup.of (S7 _ _ (S6 _ _ (S5 _ _ (S4 _ _ (S3 _ _ h2)))))) rWi (c := c.toNat) (by omega) (kin_same kb0 S17)
    refine iteF' (decide_eq_false c0') ?_
    walk_at "rd"
    by_cases c1' : f = 1
    · refine iteT' (decide_eq_true c1') ?_
      walk_at "rd"
      refine rd_slW hts fun H1 a1 S1 h1 => ?_
      rw [cut_take _ j0 (by rw [List.length_map, lts, lS]; omega)] at h1
      walk_at "rd"
      refine rd_tupL (S1 _ _ hll12) ?_
      intro a2 H2 z2 S2 h2
      walk_at "rd"
      intro a3 H3 z3 S3 h3
      refine rd_catW ((h1.same S2).same S3) (Tup.of h3) (by rw [List.length_take, List.length_map]; show _ + 1 ≤ _; omega) fun H4 a4 S4 h4 => ?_
      walk_at "rd"
      have S14 := ((S1.trans S2).trans S3).trans S4
      refine rd_slW (hts.same S14) fun H5 a5 S5 h5 => ?_
      rw [cut_drop _ (by omega) (by rw [List.length_map, lts, lS]; omega), cj] at h5
      refine rd_catW (h4.same S5) h5 (by simp; omega) fun H6 a6 S6 h6 => ?_
      rw [cut_set _ _ (by rw [List.length_map, lts, lS]; omega)] at h6
      walk_at "rd"
      intro a7 H7 z7 S7 h7
      have S17 := ((S14.trans S5).trans S6).trans S7
      refine out S17 (.two (Tup.of h7) (evW.same S17) (rows_bad (paired_mono pt fun _ _ z => rowT_same z S17) g.rS lS (i := j.toNat) (by omega) (h6.same S7) ?_))
      exact row_bad (Tup.of (S7 _ _ (S6 _ _ (S5 _ _ (S4 _ _ (S3 _ _ h2)))))) rSj (c := e.toNat) (by omega) (kin_same kb0 S17)
    refine iteF' (decide_eq_false c1') ?_
    walk_at "rd"
    by_cases c2' : f = 2
    · refine iteT' (decide_eq_true c2') ?_
      walk_at "rd"
      refine rd_slW hts fun H1 a1 S1 h1 => ?_
      rw [cut_take _ j0 (by rw [List.length_map, lts, lS]; omega)] at h1
      walk_at "rd"
      refine rd_at2 (hv0.same S1) j0 (by rw [lS]; exact j1) fun r1 hr1 => ?_
      walk_at "rd"
      intro b1 G1 y1 T1 hb1
      refine rd_catW (hr1.same T1) (Tup.of hb1) (by rw [List.length_map, rSj]; show _ + 1 ≤ _; omega) fun H2 a2 S2 h2 => ?_
      walk_at "rd"
      intro a3 H3 z3 S3 h3
      have S13 := T1.trans (S2.trans S3)
      refine rd_catW (h1.same S13) (Tup.of h3) (by rw [List.length_take, List.length_map]; show _ + 1 ≤ _; omega) fun H4 a4 S4 h4 => ?_
      walk_at "rd"
      have S14 := (S1.trans S13).trans S4
      refine rd_slW (hts.same S14) fun H5 a5 S5 h5 => ?_
      rw [cut_drop _ (by omega) (by rw [List.length_map, lts, lS]; omega), cj] at h5
      refine rd_catW (h4.same S5) h5 (by simp; omega) fun H6 a6 S6 h6 => ?_
      rw [cut_set _ _ (by rw [List.length_map, lts, lS]; omega)] at h6
      walk_at "rd"
      intro a7 H7 z7 S7 h7
      have S17 := ((S14.trans S5).trans S6).trans S7
      refine out S17 (.two (Tup.of h7) (evW.same S17) (rows_bad (paired_mono pt fun _ _ z => rowT_same z S17) g.rS lS (i := j.toNat) (by omega) (h6.same S7) ?_))
      exact .len ((((h2.same S3).same S4).same S5).same (S6.trans S7)) (by rw [List.length_append, List.length_map, rSj]; show k + 1 ≠ k; omega)
    refine iteF' (decide_eq_false c2') ?_
    walk_at "rd"
    by_cases c3' : f = 3
    · refine iteT' (decide_eq_true c3') ?_
      walk_at "rd"
      refine rd_slW hts fun H1 a1 S1 h1 => ?_
      rw [cut_take _ j0 (by rw [List.length_map, lts, lS]; omega)] at h1
      walk_at "rd"
      refine rd_at2 (hv0.same S1) j0 (by rw [lS]; exact j1) fun r1 hr1 => ?_
      walk_at "rd"
      refine rd_slW hr1 fun H2 a2 S2 h2 => ?_
      rw [cut_drop _ (by omega) (by rw [List.length_map, rSj]; omega)] at h2
      walk_at "rd"
      intro a3 H3 z3 S3 h3
      have S13 := S2.trans S3
      refine rd_catW (h1.same S13) (Tup.of h3) (by rw [List.length_take, List.length_map]; show _ + 1 ≤ _; omega) fun H4 a4 S4 h4 => ?_
      walk_at "rd"
      have S14 := (S1.trans S13).trans S4
      refine rd_slW (hts.same S14) fun H5 a5 S5 h5 => ?_
      rw [cut_drop _ (by omega) (by rw [List.length_map, lts, lS]; omega), cj] at h5
      refine rd_catW (h4.same S5) h5 (by simp; omega) fun H6 a6 S6 h6 => ?_
      rw [cut_set _ _ (by rw [List.length_map, lts, lS]; omega)] at h6
      walk_at "rd"
      intro a7 H7 z7 S7 h7
      have S17 := ((S14.trans S5).trans S6).trans S7
      refine out S17 (.two (Tup.of h7) (evW.same S17) (rows_bad (paired_mono pt fun _ _ z => rowT_same z S17) g.rS lS (i := j.toNat) (by omega) (h6.same S7) ?_))
      exact .len ((((h2.same S3).same S4).same S5).same (S6.trans S7)) (by rw [List.length_drop, List.length_map, rSj]; show k - 1 ≠ k; omega)
    refine iteF' (decide_eq_false c3') ?_
    walk_at "rd"
    by_cases c4' : f = 4
    · refine iteT' (decide_eq_true c4') ?_
      walk_at "rd"
      refine rd_slW hts fun H1 a1 S1 h1 => ?_
      rw [cut_take _ j0 (by rw [List.length_map, lts, lS]; omega)] at h1
      walk_at "rd"
      refine rd_slW (hts.same S1) fun H5 a5 S5 h5 => ?_
      rw [cut_drop _ (by omega) (by rw [List.length_map, lts, lS]; omega), cj] at h5
      refine rd_catW (h1.same S5) h5 (by simp; omega) fun H6 a6 S6 h6 => ?_
      walk_at "rd"
      intro a7 H7 z7 S7 h7
      have S17 := ((S1.trans S5).trans S6).trans S7
      refine out S17 (.two (Tup.of h7) (evW.same S17) (.len (h6.same S7) ?_))
      rw [List.length_append, List.length_take, List.length_drop, List.length_map, lts, lS]
      omega
    refine iteF' (decide_eq_false c4') ?_
    walk_at "rd"
    by_cases c5' : f = 5
    · refine iteT' (decide_eq_true c5') ?_
      walk_at "rd"
      refine rd_at2 hv0 j0 (by rw [lS]; exact j1) fun r1 hr1 => ?_
      walk_at "rd"
      intro a3 H3 z3 S3 h3
      refine rd_catW (hts.same S3) (Tup.of h3) (by rw [List.length_map]; show _ + 1 ≤ _; omega) fun H6 a6 S6 h6 => ?_
      walk_at "rd"
      intro a7 H7 z7 S7 h7
      have S17 := (S3.trans S6).trans S7
      refine out S17 (.two (Tup.of h7) (evW.same S17) (.len (h6.same S7) ?_))
      rw [List.length_append, List.length_map, lts, lS]
      show 5 + 1 ≠ 5
      omega
    refine iteF' (decide_eq_false c5') ?_
    walk_at "rd"
    by_cases c6' : f = 6
    · refine iteT' (decide_eq_true c6') ?_
      walk_at "rd"
      refine rd_slW hts fun H1 a1 S1 h1 => ?_
      rw [cut_take _ j0 (by rw [List.length_map, lts, lS]; omega)] at h1
      walk_at "rd"
      refine rd_at2 (hv0.same S1) j0 (by rw [lS]; exact j1) fun r1 hr1 => ?_
      walk_at "rd"
      refine rd_list (.inr hr1.sq) ?_
      intro a2 H2 z2 S2 h2
      walk_at "rd"
      intro a3 H3 z3 S3 h3
      have S13 := S2.trans S3
      refine rd_catW (h1.same S13) (Tup.of h3) (by rw [List.length_take, List.length_map]; show _ + 1 ≤ _; omega) fun H4 a4 S4 h4 => ?_
      walk_at "rd"
      have S14 := (S1.trans S13).trans S4
      refine rd_slW (hts.same S14) fun H5 a5 S5 h5 => ?_
      rw [cut_drop _ (by omega) (by rw [List.length_map, lts, lS]; omega), cj] at h5
      refine rd_catW (h4.same S5) h5 (by simp; omega) fun H6 a6 S6 h6 => ?_
      rw [cut_set _ _ (by rw [List.length_map, lts, lS]; omega)] at h6
      walk_at "rd"
      intro a7 H7 z7 S7 h7
      have S17 := ((S14.trans S5).trans S6).trans S7
      refine out S17 (.two (Tup.of h7) (evW.same S17) (rows_bad (paired_mono pt fun _ _ z => rowT_same z S17) g.rS lS (i := j.toNat) (by omega) (h6.same S7) ?_))
      exact .ntp (ty_list (S7 _ _ (S6 _ _ (S5 _ _ (S4 _ _ (S3 _ _ h2)))))) k_list
    refine iteF' (decide_eq_false c6') ?_
    walk_at "rd"
    by_cases c7' : f = 7
    · refine iteT' (decide_eq_true c7') ?_
      walk_at "rd"
      refine rd_slW hq fun H1 a1 S1 h1 => ?_
      rw [cut_take _ i0 (by rw [List.length_map, lqs, lW]; omega)] at h1
      walk_at "rd"
      refine rd_at2 (hu0.same S1) i0 (by rw [lW]; exact i1) fun r1 hr1 => ?_
      walk_at "rd"
      refine rd_list (.inr hr1.sq) ?_
      intro a2 H2 z2 S2 h2
      walk_at "rd"
      intro a3 H3 z3 S3 h3
      have S13 := S2.trans S3
      refine rd_catW (h1.same S13) (Tup.of h3) (by rw [List.length_take, List.length_map]; show _ + 1 ≤ _; omega) fun H4 a4 S4 h4 => ?_
      walk_at "rd"
      have S14 := (S1.trans S13).trans S4
      refine rd_slW (hq.same S14) fun H5 a5 S5 h5 => ?_
      rw [cut_drop _ (by omega) (by rw [List.length_map, lqs, lW]; omega), ci] at h5
      refine rd_catW (h4.same S5) h5 (by simp; omega) fun H6 a6 S6 h6 => ?_
      rw [cut_set _ _ (by rw [List.length_map, lqs, lW]; omega)] at h6
      walk_at "rd"
      intro a7 H7 z7 S7 h7
      have S17 := ((S14.trans S5).trans S6).trans S7
      refine out S17 (.odd (Tup.of h7) (.no (rows_bad (paired_mono pq fun _ _ z => rowT_same z S17) g.rW lW (i := i.toNat) (by omega) (h6.same S7) ?_)))
      exact .ntp (ty_list (S7 _ _ (S6 _ _ (S5 _ _ (S4 _ _ (S3 _ _ h2)))))) k_list
    refine iteF' (decide_eq_false c7') ?_
    walk_at "rd"
    by_cases c8' : f = 8
    · refine iteT' (decide_eq_true c8') ?_
      walk_at "rd"
      intro a1 H1 z1 S1 h1
      walk_at "rd"
      refine rd_list (.inr (hts.same S1).sq) ?_
      intro a2 H2 z2 S2 h2
      walk_at "rd"
      intro a3 H3 z3 S3 h3
      walk_at "rd"
      refine rd_list (.inr (((hq.same S1).same S2).same S3).sq) ?_
      intro a4 H4 z4 S4 h4
      walk_at "rd"
      intro a5 H5 z5 S5 h5
      walk_at "rd"
      intro a6 H6 z6 S6 h6
      walk_at "rd"
      intro a7 H7 z7 S7 h7
      walk_at "rd"
      intro a8 H8 z8 S8 h8
      walk_at "rd"
      intro a9 H9 z9 S9 h9
      have S78 := S7.trans S8
      have S68 := S6.trans S78
      have S58 := S5.trans S68
      have S48 := S4.trans S58
      have S38 := S3.trans S48
      have S28 := S2.trans S38
      have S18 := S1.trans S28
      have S19 := S18.trans S9
      have d8 := d12.same S18
      have d9 := d12.same S19
      have n9 := d8.nes z9
      refine ⟨p, q, a9, _, rfl, d9, n9.1, n9.2, h9, by show 0 < 5; decide, by show 5 < 1000; decide, fun H10 x hx d10 f10 => ?_⟩
      have KK := Kept.fix f10 d9 d10
      refine hQ _ _ d10 ((F12.trans (Fix.same S19)).trans f10) (WgIs.kept ?_ KK)
      simp only [List.mem_cons, List.not_mem_nil, or_false] at hx
      rcases hx with h | h | h | h | h <;> subst h
      · exact .ntp (ty_list (S9 _ _ (S28 _ _ h1))) k_list
      · exact .two (Tup.of (S9 _ _ (S48 _ _ h3))) (evW.same S19) (.ntp (ty_list (S9 _ _ (S38 _ _ h2))) k_list)
      · exact .odd (Tup.of (S9 _ _ (S68 _ _ h5))) (.no (.ntp (ty_list (S9 _ _ (S58 _ _ h4))) k_list))
      · exact .len (Tup.of (S9 _ _ (S78 _ _ h6))) (by show 1 ≠ 2; decide)
      · exact .len (Tup.of (S9 _ _ h8)) (by show 3 ≠ 2; decide)
    refine iteF' (decide_eq_false c8') ?_
    walk_at "rd"
    by_cases c9' : f = 9
    · refine iteT' (decide_eq_true c9') ?_
      walk_at "rd"
      refine rd_at2 hu0 i0 (by rw [lW]; exact i1) fun r1 hr1 => ?_
      walk_at "rd"
      intro a3 H3 z3 S3 h3
      refine rd_catW (hq.same S3) (Tup.of h3) (by rw [List.length_map]; show _ + 1 ≤ _; omega) fun H6 a6 S6 h6 => ?_
      walk_at "rd"
      intro a7 H7 z7 S7 h7
      have S17 := (S3.trans S6).trans S7
      refine out S17 (.odd (Tup.of h7) (.no (.len (h6.same S7) ?_)))
      rw [List.length_append, List.length_map, lqs, lW]
      show k + 1 ≠ k
      omega
    refine iteF' (decide_eq_false c9') ?_
    have rest : ∀ R, R = True → R := fun _ z => by rw [z]; trivial
    clear rest
    walk_at "rd"
    by_cases c10 : f = 10 ∧ 1 < k
    · obtain ⟨c10a, c10b⟩ := c10
      refine iteT' (decide_eq_true c10a) ?_
      walk_at "rd"
      refine iteT' (decide_eq_true (by omega)) ?_
      walk_at "rd"
      refine rd_at2 hu0 i0 (by rw [lW]; exact i1) fun r1 hr1 => ?_
      walk_at "rd"
      refine rd_list (.inr hr1.sq) ?_
      intro nl H1 z1 S1 hnl
      walk_at "rd"
      refine ⟨p, q, _, rfl, d12.same S1, by omega, by omega, fun H2 y d2 f2 y0 y1 => ?_⟩
      walk_at "rd"
      refine .inl ⟨_, rfl, ?_⟩
      walk_at "rd"
      refine rd_rI (by omega) ?_
      have nnl := d12.nes z1
      have a0 : 0 ≤ (i + 1 + y) % (k : Nat) := Int.emod_nonneg _ (by omega)
      have a1 : (i + 1 + y) % (k : Nat) < (k : Nat) := Int.emod_lt_of_pos _ (by omega)
      have ani : i ≠ (i + 1 + y) % (k : Nat) := by
        by_cases c : i + 1 + y < (k : Nat)
        · rw [Int.emod_eq_of_lt (by omega) c]; omega
        · have e : (i + 1 + y) % (k : Nat) = (i + 1 + y - (k : Nat)) % (k : Nat) := by rw [Int.sub_emod_right]
          rw [e, Int.emod_eq_of_lt (by omega) (by omega)]; omega
      generalize (i + 1 + y) % (k : Nat) = o at a0 a1 ani
      have hnl2 := f2 _ _ nnl.1 nnl.2 hnl
      walk_at "rd"
      refine rd_ixL hnl2 (modeAt_get a0 (by rw [rWi]; exact a1)) ?_
      walk_at "rd"
      refine ⟨p, q, 3, rfl, d2, by decide, by decide, fun H3 y3 d3 f3 y30 y31 => ?_⟩
      walk_at "rd"
      have hnl3 := f3 _ _ nnl.1 nnl.2 hnl2
      refine rd_setL hnl3 a0 (by rw [List.length_map, rWi]; exact a1) ?_
      have nl0 : H12 nl = none := z1
      have F13 : Fix p q H12 (upd H3 nl (.lst (((rowOf W i).map V.int).set o.toNat (.int (modeAt (rowOf W i) o + 1 + y3))))) := (((Fix.same S1).trans f2).trans f3).upd nl0
      have K13 : Kept H12 (upd H3 nl (.lst (((rowOf W i).map V.int).set o.toNat (.int (modeAt (rowOf W i) o + 1 + y3))))) := (((Kept.same S1).trans (Kept.fix f2 (d12.same S1) d2)).trans (Kept.fix f3 d2 d3)).trans (Kept.upd hnl3)
      have d13 : Deal (upd H3 nl (.lst (((rowOf W i).map V.int).set o.toNat (.int (modeAt (rowOf W i) o + 1 + y3))))) p q := d3.off nnl.1 nnl.2
      have hnl4 : upd H3 nl (.lst (((rowOf W i).map V.int).set o.toNat (.int (modeAt (rowOf W i) o + 1 + y3)))) nl = some (.lst (((rowOf W i).set o.toNat (modeAt (rowOf W i) o + 1 + y3)).map V.int)) := by rw [upd_same, List.map_set]
      generalize upd H3 nl (.lst (((rowOf W i).map V.int).set o.toNat (.int (modeAt (rowOf W i) o + 1 + y3)))) = H13 at F13 K13 d13 hnl4
      walk_at "rd"
      refine rd_slW (tup_kept hq K13) fun H14 a1' S14 h1 => ?_
      rw [cut_take _ i0 (by rw [List.length_map, lqs, lW]; omega)] at h1
      walk_at "rd"
      refine rd_tupL (S14 _ _ hnl4) ?_
      intro a2 H15 z2 S15 h2
      walk_at "rd"
      intro a3 H16 z3 S16 h3
      refine rd_catW ((h1.same S15).same S16) (Tup.of h3) (by rw [List.length_take, List.length_map]; show _ + 1 ≤ _; omega) fun H17 a4 S17 h4 => ?_
      walk_at "rd"
      have S47 := ((S14.trans S15).trans S16).trans S17
      refine rd_slW ((tup_kept hq K13).same S47) fun H18 a5 S18 h5 => ?_
      rw [cut_drop _ (by omega) (by rw [List.length_map, lqs, lW]; omega), ci] at h5
      refine rd_catW (h4.same S18) h5 (by simp; omega) fun H19 a6 S19 h6 => ?_
      rw [cut_set _ _ (by rw [List.length_map, lqs, lW]; omega)] at h6
      walk_at "rd"
      intro a7 H20 z7 S20 h7
      have S40 := ((S47.trans S18).trans S19).trans S20
      refine hQ _ _ (d13.same S40) ((F12.trans F13).trans (Fix.same S40)) (.odd (Tup.of h7) ?_)
      have e20 : evenB k (set2 W i o (modeAt (rowOf W i) o + 1 + y3)) = false := odd_bent g i0 i1 a0 a1 ani (by unfold at2; omega)
      have tb : TabAt H20 a6 (set2 W i o (modeAt (rowOf W i) o + 1 + y3)) := by
        refine ⟨qs.set i.toNat a2, ?_, ?_⟩
        · rw [List.map_set]; exact h6.same S20
        · exact paired_set (paired_mono pq fun _ _ z => rowT_same (tup_kept z K13) S40) (Tup.of (S20 _ _ (S19 _ _ (S18 _ _ (S17 _ _ (S16 _ _ h2)))))) _
      have z : EvIs K H20 k (.ref a6) (evenB k (set2 W i o (modeAt (rowOf W i) o + 1 + y3))) := .tab tb (by rw [set2_len]; exact lW) (set2_row i0 (by rw [lW]; exact i1) g.rW)
      rwa [e20] at z
    refine ite_both ?_ fun ce hb => ?_
    rotate_left
    · have ce' := of_decide_eq_true ce
      walk_at "rd"
      exact iteF' (decide_eq_false (by omega)) hb
    walk_at "rd"
    by_cases c11 : f = 11
    · refine iteT' (decide_eq_true c11) ?_
      walk_at "rd"
      refine rd_slW hq fun H1 a1 S1 h1 => ?_
      rw [cut_drop _ (by omega) (by rw [List.length_map, lqs, lW]; omega)] at h1
      walk_at "rd"
      intro a7 H7 z7 S7 h7
      refine out (S1.trans S7) (.odd (Tup.of h7) (.no (.len (h1.same S7) ?_)))
      rw [List.length_drop, List.length_map, lqs, lW]
      show k - 1 ≠ k
      omega
    refine iteF' (decide_eq_false c11) ?_
    walk_at "rd"
    intro a1 H1 z1 S1 h1
    walk_at "rd"
    intro a2 H2 z2 S2 h2
    walk_at "rd"
    intro a3 H3 z3 S3 h3
    walk_at "rd"
    intro a4 H4 z4 S4 h4
    walk_at "rd"
    have S14 := ((S1.trans S2).trans S3).trans S4
    refine rd_at2 (hu0.same S14) i0 (by rw [lW]; exact i1) fun r1 hr1 => ?_
    walk_at "rd"
    intro a5 H5 z5 S5 h5
    walk_at "rd"
    intro a9 H9 z9 S9 h9
    have S49 := S5.trans S9
    have S39 := S4.trans S49
    have S29 := S3.trans S39
    have S19' := S2.trans S29
    have S19 := S1.trans S19'
    have d8 := (d12.same S14).same S5
    have d9 := d12.same S19
    have n9 := d8.nes z9
    refine ⟨p, q, a9, _, rfl, d9, n9.1, n9.2, h9, by show 0 < 8; decide, by show 8 < 1000; decide, fun H10 x hx d10 f10 => ?_⟩
    have KK := Kept.fix f10 d9 d10
    refine hQ _ _ d10 ((F12.trans (Fix.same S19)).trans f10) (WgIs.kept ?_ KK)
    simp only [List.mem_cons, List.not_mem_nil, or_false] at hx
    rcases hx with h | h | h | h | h | h | h | h <;> subst h
    · exact .ntp (.base .non) k_non
    · exact .ntp (.base (.int 5)) k_int
    · exact .ntp (.base (.str _)) k_str
    · exact .len (Tup.of (S19' _ _ h1)) (by show 0 ≠ 2; decide)
    · exact .two (Tup.of (S29 _ _ h2)) (evW.same S19) (.ntp (.base .non) k_non)
    · exact .odd (Tup.of (S39 _ _ h3)) (.no (.ntp (.base .non) k_non))
    · refine .odd (Tup.of (S49 _ _ h4)) (.no (.len (hts.same S19) ?_))
      rw [List.length_map, lts, lS]
      omega
    · refine .odd (Tup.of (S9 _ _ h5)) (.no ?_)
      have hr9 : Tup H9 r1 ((rowOf W i).map V.int) := hr1.same S49
      have pz : ∀ l : List Int, Paired (RowIs K H9 k) (l.map V.int) (l.map fun _ => false) := fun l => by
        induction l with
        | nil => exact .nil
        | cons x l ih => exact .cons (.ntp (.base (.int x)) k_int) ih
      have z : RowsIs K H9 k k (.ref r1) (((rowOf W i).map fun _ => false).all id) := .ok hr9 (by rw [List.length_map, rWi]) (pz _)
      have e : ((rowOf W i).map fun _ => false).all id = false := by
        rw [List.all_eq_false]
        cases hc : rowOf W i with
        | nil => rw [hc] at rWi; simp at rWi; omega
        | cons x l => exact ⟨false, List.mem_cons_self, by decide⟩
      rwa [e] at z
end
end K65

namespace K65
open PySem PySem.Spec PyProof.Rows L2 KX
local macro_rules | `(tactic| walk_at "rd1") => `(tactic| first
  | with_reducible refine rd_seq ?_
  | with_reducible refine rd_for ?_
  | with_reducible refine rd_lc ?_
  | with_reducible refine rd_asg ?_
  | ((with_reducible refine' rd_var ?rdv ?_); (case rdv => exact rfl))
  | with_reducible refine rd_c ?_
  | with_reducible refine rd_op ?_
  | with_reducible refine rd_un ?_
  | with_reducible refine rd_cons ?_
  | with_reducible refine rd_nil ?_
  | with_reducible refine rd_call ?_
  | with_reducible refine rd_cb ?_
  | with_reducible refine rd_tB ?_
  | with_reducible refine rd_test ?_
  | with_reducible refine rd_bl ?_
  | with_reducible refine rd_rI0 ?_
  | with_reducible refine rd_eqI ?_
  | with_reducible refine rd_neI ?_
  | with_reducible refine rd_rU ?_
  | with_reducible refine rd_name ?_
  | with_reducible refine rd_ifs ?_
  | with_reducible refine rd_and ?_
  | with_reducible refine rd_or ?_
  | with_reducible refine rd_not ?_
  | with_reducible refine rd_yes ?_
  | with_reducible refine rd_andV ?_
  | with_reducible refine rd_orV ?_
  | with_reducible refine rd_notV ?_
  | with_reducible refine rd_if ?_
  | with_reducible refine rd_isN ?_
  | with_reducible refine rd_iT ?_
  | with_reducible refine rd_iF ?_
  | with_reducible refine rd_ret ?_
  | with_reducible refine rd_retN ?_
  | with_reducible refine rd_drop ?_
  | with_reducible refine rd_next ?_
  | with_reducible refine rd_cont ?_
  | with_reducible refine rd_brk ?_
  | with_reducible refine rd_nx ?_
  | with_reducible refine rd_rt ?_
  | with_reducible refine rd_ct ?_
  | with_reducible refine rd_bk ?_
  | with_reducible refine rd_par ?_
  | with_reducible refine rd_par3 ?_
  | with_reducible refine rd_par2 ?_
  | with_reducible refine rd_par33 ?_
  | with_reducible refine rd_gcons ?_
  | with_reducible refine rd_gnil ?_
  | with_reducible refine rd_sub ?_
  | with_reducible refine rd_tup ?_
  | with_reducible refine rd_lst ?_
  | ((with_reducible refine rd_tupT ?hl ?_); (case hl => exact Nat.le_of_ble_eq_true rfl))
  | ((with_reducible refine rd_lstT ?hl ?_); (case hl => exact Nat.le_of_ble_eq_true rfl))
  | with_reducible refine rd_bm ?_
  | with_reducible refine rd_bm0 ?_
  | with_reducible refine rd_sl ?_
  | with_reducible refine rd_noP ?_
  | with_reducible refine rd_part ?_
  | with_reducible refine rd_int ?_
  | with_reducible refine rd_int1 ?_
  | with_reducible refine rd_fld ?_
  | with_reducible refine rd_then ?_
  | with_reducible refine rd_raise ?_
  | with_reducible refine rd_one ?_
  | with_reducible refine rd_sfld ?_
  | with_reducible refine rd_ilist ?_
  | with_reducible refine rd_itup ?_
  | with_reducible refine rd_rng1 ?_
  | with_reducible refine rd_enum ?_
  | with_reducible refine rd_enumT ?_)
local macro_rules | `(tactic| walk_at "rd") => `(tactic| repeat (walk_at "rd1"))
theorem kb_is_weighing {K : PySem.W.Frag} {mg : Str → Option Value} (T : TX K mg) : KBn K T.d_is_weighing ["modes", "value"] 0 ["value", "modes"] (fun _ ws => match ws with | [v0, v1] => [v1, v0] | ws => ws) (fun _ ws => match ws with | [v0, v1] => [v1, v0] | ws => ws) := by
  obtain ⟨oc, od, kV, doc, pm, an, cdv, ct, osl, e, lk, hcd⟩ := T.F_is_weighing.ex
  rw [e]
  refine ⟨fun s us ws _ h0 h2 => ?_, fun {vs us zs ws} _ r => ?_⟩
  · match us, ws, h0, h2 with
    | [], [v0, v1], _, _ => exact .of_eq rfl
  · exact match r with
      | .nil => .nil
      | .cons a0 (.nil) => .cons a0 (.nil)
      | .cons a0 (.cons a1 (.nil)) => .cons a1 (.cons a0 (.nil))
      | .cons a0 (.cons a1 (.cons a2 (r))) => .cons a0 (.cons a1 (.cons a2 (r)))
theorem kb_weight {K : PySem.W.Frag} {mg : Str → Option Value} (T : TX K mg) : KBn K T.d_weight ["weighing", "network"] 0 ["network", "weighing"] (fun _ ws => match ws with | [v0, v1] => [v1, v0] | ws => ws) (fun _ ws => match ws with | [v0, v1] => [v1, v0] | ws => ws) := by
  obtain ⟨oc, od, kV, doc, pm, an, cdv, ct, osl, e, lk, hcd⟩ := T.F_weight.ex
  rw [e]
  refine ⟨fun s us ws _ h0 h2 => ?_, fun {vs us zs ws} _ r => ?_⟩
  · match us, ws, h0, h2 with
    | [], [v0, v1], _, _ => exact .of_eq rfl
  · exact match r with
      | .nil => .nil
      | .cons a0 (.nil) => .cons a0 (.nil)
      | .cons a0 (.cons a1 (.nil)) => .cons a1 (.cons a0 (.nil))
      | .cons a0 (.cons a1 (.cons a2 (r))) => .cons a0 (.cons a1 (.cons a2 (r)))
theorem kb_room {K : PySem.W.Frag} {mg : Str → Option Value} (T : TX K mg) : KBn K T.d_room ["weighing", "network"] 0 ["network", "weighing"] (fun _ ws => match ws with | [v0, v1] => [v1, v0] | ws => ws) (fun _ ws => match ws with | [v0, v1] => [v1, v0] | ws => ws) := by
  obtain ⟨oc, od, kV, doc, pm, an, cdv, ct, osl, e, lk, hcd⟩ := T.F_room.ex
  rw [e]
  refine ⟨fun s us ws _ h0 h2 => ?_, fun {vs us zs ws} _ r => ?_⟩
  · match us, ws, h0, h2 with
    | [], [v0, v1], _, _ => exact .of_eq rfl
  · exact match r with
      | .nil => .nil
      | .cons a0 (.nil) => .cons a0 (.nil)
      | .cons a0 (.cons a1 (.nil)) => .cons a1 (.cons a0 (.nil))
      | .cons a0 (.cons a1 (.cons a2 (r))) => .cons a0 (.cons a1 (.cons a2 (r)))
/-! ### texts of numbers -/
theorem rep_int {i : Int} (h : i.natAbs < 2 ^ 200) : Rep (.int i) := by
  have lg : i.natAbs.log2 < 200 := PySem.Flt.log2_lt_of (by decide) h
  have sh : (PyData.shown (.int i)).length ≤ 62 := by
    have e := int_text_length_le10 (k := 61) (by decide) (Nat.lt_trans h (by decide : 2 ^ 200 < 10 ^ 61))
    show (Str.ofString (toString i)).length ≤ 62
    rw [PySem.ofString_length]; exact e
  exact ⟨decide_eq_true (Nat.lt_trans lg (by decide)), rfl, (by show 0 ≤ 64; decide), Nat.le_trans sh (by decide)⟩
theorem rep_bool (b : Bool) : Rep (.bool b) := by cases b <;> exact ⟨rfl, rfl, by decide, by decide⟩
theorem sum_bd : ∀ l : List Int, (∀ x ∈ l, Bd x) → -(1000000 * ((l.length : Nat) : Int)) ≤ l.sum ∧ l.sum ≤ 1000000 * ((l.length : Nat) : Int)
  | [], _ => ⟨by decide, by decide⟩
  | x :: l, h => by
    have ih := sum_bd l fun y hy => h y (List.mem_cons_of_mem _ hy)
    have hx := h x List.mem_cons_self
    unfold Bd at hx
    simp only [List.sum_cons, List.length_cons]
    omega
theorem at2_bd {k m : Nat} {M : List (List Int)} (lM : M.length = m) (rM : ∀ r ∈ M, r.length = k) (b : ∀ r ∈ M, ∀ x ∈ r, Bd x) {a c : Int} (a0 : 0 ≤ a) (a1 : a < (m : Nat)) (c0 : 0 ≤ c) (c1 : c < (k : Nat)) : Bd (at2 M a c) := by
  have hr := rowOf_mem' (W := M) a0 (by omega)
  exact b _ hr _ (modeAt_mem c0 (by rw [rM _ hr]; exact c1))
theorem wt_bd {k : Nat} {W S : List (List Int)} {ms : List Int} {L : List (Int × Int)} (g : Wg k W S) (nw : Nw ms L) (mk : ∀ m ∈ ms, m < (k : Nat)) : -20000000000 ≤ wt W S ms L ∧ wt W S ms L ≤ 20000000000 := by
  have h1 := sum_bd (L.map (wl W ms)) fun x hx => by
    obtain ⟨e, he, rfl⟩ := List.mem_map.mp hx
    obtain ⟨a0, a1, b0, b1, c0, c1, d0, d1⟩ := link_ok nw mk he
    exact at2_bd g.lW g.rW g.bW c0 c1 d0 d1
  have h2 := sum_bd ((viewsOf ms L).map (wv S)) fun x hx => by
    obtain ⟨v, hv, rfl⟩ := List.mem_map.mp hx
    obtain ⟨a0, a1, b0, b1⟩ := view_ok nw mk hv
    exact at2_bd g.lS g.rS g.bS (by omega) (by omega) a0 a1
  rw [List.length_map] at h1 h2
  have := nw.lL
  have := nw.ml
  have := views_len ms L
  unfold wt
  omega
theorem least_bd {l : List Int} (n : l ≠ []) (h : ∀ x ∈ l, Bd x) : Bd (leastI l) := by
  cases l with
  | nil => exact absurd rfl n
  | cons x l => exact h _ (minOf_le l x).1
theorem room_bd {k : Nat} {W S : List (List Int)} {ms : List Int} {L : List (Int × Int)} (g : Wg k W S) (nw : Nw ms L) (mk : ∀ m ∈ ms, m < (k : Nat)) : (roomI W S ms L).natAbs < 2 ^ 200 := by
  have h1 := wt_bd g nw mk
  have k1 := g.k1
  have nn : ∀ r ∈ W, r ≠ [] := fun r hr z => by have := g.rW r hr; rw [z] at this; simp at this; omega
  have h2 : Bd (leastI (W.map leastI)) := least_bd (fun z => by have := congrArg List.length z; rw [List.length_map, g.lW] at this; simp at this; omega) fun x hx => by
    obtain ⟨r, hr, rfl⟩ := List.mem_map.mp hx
    exact least_bd (nn r hr) (g.bW r hr)
  have h3 := sum_bd ((viewsOf ms L).map (lowS S)) fun x hx => by
    obtain ⟨v, hv, rfl⟩ := List.mem_map.mp hx
    obtain ⟨a0, a1, b0, b1⟩ := view_ok nw mk hv
    have hr := rowOf_mem' (W := S) (a := ((v.2.length : Nat) : Int)) (by omega) (by rw [g.lS]; omega)
    exact least_bd (fun z => by have := g.rS _ hr; rw [z] at this; simp at this; omega) (g.bS _ hr)
  rw [List.length_map] at h3
  have lL := nw.lL
  have := nw.ml
  have := views_len ms L
  have h4 : (((L.length : Nat) : Int) * leastI (W.map leastI)).natAbs ≤ 10000 * 1000000 := by
    rw [Int.natAbs_mul]
    unfold Bd at h2
    exact Nat.mul_le_mul (by omega) (by omega)
  unfold roomI
  have : (2 : Nat) ^ 200 > 100000000000000 := by decide
  omega
def spKR (K : PySem.W.Frag) : L2.Sp := fun vs H Q _ => ∃ (p q t : Addr) (k : Nat) (W S : List (List Int)), vs = [.ref p, .int (k : Nat), .ref t] ∧ Deal H p q ∧ WtAt H t W S ∧ Wg k W S ∧
  ∀ H', Deal H' p q → Fix p q H H' → Q (.bl true) H'
def spNR : L2.Sp := fun vs H Q _ => ∃ (t a l : Addr) (k : Nat) (W S : List (List Int)) (ms : List Int) (ps : List Addr) (L : List (Int × Int)), vs = [.ref t, .ref a, .ref l] ∧ WtAt H t W S ∧ Wg k W S ∧ H a = some (.lst (ms.map V.int)) ∧ H l = some (.lst (ps.map V.ref)) ∧ Paired (PairAt H) ps L ∧ Nw ms L ∧ (∀ m ∈ ms, m < (k : Nat)) ∧
  ∀ H', Same H H' → Q (.bl true) H'
def spSR : L2.Sp := fun vs H Q _ => ∃ (t r : Addr) (k : Nat) (W S : List (List Int)) (m to : Int) (ns : List Int), vs = [.ref t, .int m, .ref r, .int to, .int (eff W S m ns to)] ∧ WtAt H t W S ∧ Wg k W S ∧ RowT H r ns ∧ ns.length ≤ 4 ∧ ns.Pairwise (· ≤ ·) ∧
  0 ≤ m ∧ m < (k : Nat) ∧ 0 ≤ to ∧ to < (k : Nat) ∧ (∀ x ∈ ns, 0 ≤ x ∧ x < (k : Nat)) ∧ ∀ H', Same H H' → Q (.bl true) H'
section
variable {P : Program} {w : World} {K : PySem.W.Frag} {mg : Str → Option Value} {base : Heap} (T : TX K mg)
theorem G__law_kinds_right : FnR P w K mg base CX0 (CG 7) T.f__law_kinds_right T.d__law_kinds_right ["deal", "kinds", "weighing"] (spKR K) := by
  obtain ⟨oc, od, kV, doc, pm, an, cdv, ct, osl, eF, lk, hcd⟩ := T.F__law_kinds_right.ex
  rw [eF] at lk
  rw [eF]
  refine fnG_of lk hcd sc__law_kinds_right (fun vs H Q E h => ?_) fun A outer s H vs Q E hr hg h => ?_
  · obtain ⟨p, q, t, k, W, S, rfl, _⟩ := h
    rfl
  have hu : (A.deeper (envOfC "_law_kinds_right" (defScope s__law_kinds_right) s.heap.objs.size T.f__law_kinds_right cdv)).units + 66 < cLine := by
    have := hr.un
    omega
  refine ⟨_, PSs.nox (pss_cons (ps_for PassesOwn.never rfl (pi_listK (K := K) (pe_lst (pa_cons (pe_tup (pa_cons (pv 2) (pa_cons pe_bl pa_nil))) (pa_cons (pe_tup (pa_cons (pe_call (G__law_spoilt T) (hr.mono (by decide)) (by rfl) T.m__law_spoilt T.F__law_spoilt.kp T.b__law_spoilt .nil pass0 (by exact (pa_cons (pv 0) (pa_cons (pv 1) (pa_cons (pv 2) pa_nil))))) (pa_cons pe_bl pa_nil))) pa_nil)))) (pg_tupK (K := K) (n := 2) (by rfl) (pgs_cons (pg_name (i := 3) sc__law_kinds_right.nd rfl (.inl rfl)) (pgs_cons (pg_name (i := 4) sc__law_kinds_right.nd rfl (.inl rfl)) pgs_nil))) (pss_one (ps_if (pt_cmpR op_ne (pe_callB (cr_reprK (K := K) hg hu) (by rfl) T.n_repr (by decide +kernel) (by exact (pa_cons (pe_callK (G_is_weighing T) (hr.mono (by decide)) (by rfl) T.m_is_weighing T.F_is_weighing.kp (kb_is_weighing T) pass0 (by exact (pk_cons (pv 3) (pk_cons (pv 1) pk_nil)))) pa_nil))) (pe_callB (cr_reprK (K := K) hg hu) (by rfl) T.n_repr (by decide +kernel) (by exact (pa_cons (pv 4) pa_nil))) (nomark _)) (pss_one (ps_ret pe_bl)) pss_nil))) (pss_cons (ps_for PassesOwn.never rfl (pi_range2 (by rfl) T.n_range (by exact (pa_cons pe_int (pa_cons pe_int pa_nil)))) (pg_name (i := 5) sc__law_kinds_right.nd rfl (.inl rfl)) (pss_one (ps_if (pt_cmpR op_ne (pe_callB (cr_reprK (K := K) hg hu) (by rfl) T.n_repr (by decide +kernel) (by exact (pa_cons (pe_call (G_is_weighing T) (hr.mono (by decide)) (by rfl) T.m_is_weighing T.F_is_weighing.kp T.b_is_weighing .nil pass0 (by exact (pa_cons (pv 5) (pa_cons (pv 2) pa_nil)))) pa_nil))) (pe_callB (cr_reprK (K := K) hg hu) (by rfl) T.n_repr (by decide +kernel) (by exact (pa_cons (pe_cmpR op_eq (pv 5) (pv 1) (nomark _)) pa_nil))) (nomark _)) (pss_one (ps_ret pe_bl)) pss_nil))) (pss_one (ps_ret pe_bl)))), ?_⟩
  obtain ⟨p, q, t, k, W, S, rfl, d, hw, g, hQ⟩ := h
  have k1 := g.k1
  have k4 := g.k4
  walk_at "rd"
  intro a1 H1 z1 S1 h1
  walk_at "rd"
  refine ⟨p, q, t, k, W, S, rfl, d.same S1, hw.same S1, g, fun H2 x d2 f2 hx => ?_⟩
  have K12 := Kept.fix f2 (d.same S1) d2
  walk_at "rd"
  intro a2 H3 z3 S3 h3
  walk_at "rd"
  intro a3 H4 z4 S4 h4
  have S34 := S3.trans S4
  have d4 := d2.same S34
  have F4 : Fix p q H H4 := ((Fix.same S1).trans f2).trans (Fix.same S34)
  have K4 := Kept.fix F4 d d4
  have hw4 := hw.kept K4
  have hx4 := hx.same S34
  have h1' := S4 _ _ (S3 _ _ (K12.nl _ _ h1 fun _ z => by cases z))
  have h3' := S4 _ _ h3
  clear h1 h3 z1 z3 z4 S1 S3 S34 f2 d2 K12 hx
  refine ⟨a3, rfl, ⟨_, SqL.of h4⟩, ?_⟩
  have w1 : WgIs K H4 k (.ref t) true := g.wgIs hw4
  refine for_list (xs := [V.ref a1, V.ref a2]) (fun j σ H' => (∃ o3 o4 o5, σ = [some (.ref p), some (.int (k : Nat)), some (.ref t), o3, o4, o5]) ∧ Same H4 H')
    ⟨⟨_, _, _, rfl⟩, Same.refl _⟩ (fun j σ H' _ pv => SqL.of (pv.2 _ _ h4)) (fun j y σ H5 hy pv => ?_) (fun σ H5 pv => ?_)
  · obtain ⟨⟨o3, o4, o5, rfl⟩, S5⟩ := pv
    obtain ⟨a, x', b, rfl, ha, hb⟩ : ∃ a x' b, y = V.ref a ∧ H4 a = some (.tup [x', .bl b]) ∧ WgIs K H4 k x' b := by
      match j, hy with
      | 0, hy => simp at hy; exact ⟨a1, _, true, hy.symm, h1', w1⟩
      | 1, hy => simp at hy; exact ⟨a2, _, false, hy.symm, h3', hx4⟩
      | j + 2, hy => simp at hy
    refine rd_gtup (Tup.of (S5 _ _ ha)) rfl ?_
    walk_at "rd"
    refine rd_callK ?_
    walk_at "rd"
    refine ⟨rfl, k, x', b, rfl, by omega, hb.same S5, fun H6 S6 => ?_⟩
    have rb := rep_bool b
    walk_at "rd"
    refine rd_repr (.bl b) rb.s rb.n rb.h rb.l ?_
    walk_at "rd"
    refine rd_repr (.bl b) rb.s rb.n rb.h rb.l ?_
    refine rd_neS ?_
    walk_at "rd"
    refine iteF' (by simp) ?_
    walk_at "rd"
    exact ⟨⟨_, _, _, rfl⟩, S5.trans S6⟩
  · obtain ⟨⟨o3, o4, o5, rfl⟩, S5⟩ := pv
    walk_at "rd"
    refine rd_rng2 ?_
    walk_at "rd"
    refine ⟨_, _, rfl, ⟨by omega, by omega, by omega, by omega⟩, ?_⟩
    refine for_range (lo := 1) (n := 4) (fun i σ H' => (∃ o3 o4 o5, σ = [some (.ref p), some (.int (k : Nat)), some (.ref t), o3, o4, o5]) ∧ Same H4 H')
      ⟨⟨_, _, _, rfl⟩, S5⟩ (fun i σ H6 hi pv => ?_) (fun σ H6 pv => ?_)
    · clear S5
      obtain ⟨⟨o3, o4, o5, rfl⟩, S6⟩ := pv
      have ei : (1 : Int) + ((i : Nat) : Int) = ((1 + i : Nat) : Int) := by omega
      rw [ei]
      walk_at "rd"
      refine ⟨1 + i, .ref t, decide (((1 + i : Nat) : Int) = ((k : Nat) : Int)), rfl, by omega, ?_, fun H7 S7 => ?_⟩
      · by_cases c : 1 + i = k
        · rw [decide_eq_true (by omega), c]; exact w1.same S6
        · rw [decide_eq_false (by omega)]; exact (g.wgOth hw4 c).same S6
      have rb := rep_bool (decide (((1 + i : Nat) : Int) = ((k : Nat) : Int)))
      walk_at "rd"
      refine rd_repr (.bl _) rb.s rb.n rb.h rb.l ?_
      walk_at "rd"
      refine rd_repr (.bl _) rb.s rb.n rb.h rb.l ?_
      refine rd_neS ?_
      walk_at "rd"
      refine iteF' (by simp) ?_
      walk_at "rd"
      exact ⟨⟨_, _, _, rfl⟩, S6.trans S7⟩
    · obtain ⟨_, S6⟩ := pv
      walk_at "rd"
      exact hQ H6 (d4.same S6) (F4.trans (Fix.same S6))
theorem G__law_network_right : FnR P w K mg base CX0 (CG 12) T.f__law_network_right T.d__law_network_right ["weighing", "modes", "links"] spNR := by
  obtain ⟨oc, od, kV, doc, pm, an, cdv, ct, osl, eF, lk, hcd⟩ := T.F__law_network_right.ex
  rw [eF] at lk
  rw [eF]
  refine fnG_of lk hcd sc__law_network_right (fun vs H Q E h => ?_) fun A outer s H vs Q E hr hg h => ?_
  · obtain ⟨t, a, l, k, W, S, ms, ps, L, rfl, _⟩ := h
    rfl
  have hu : (A.deeper (envOfC "_law_network_right" (defScope s__law_network_right) s.heap.objs.size T.f__law_network_right cdv)).units + 66 < cLine := by
    have := hr.un
    omega
  refine ⟨_, PSs.nox (pss_cons (ps_set (i := 3) sc__law_network_right.nd rfl (.inl rfl) (pe_make T.M_Network (G_Network_init T) (hr.mono (by decide)) (by rfl) T.m_Network T.b_Network_init .nil passL (by exact (pa_cons (pv 1) (pa_cons (pv 2) pa_nil))))) (pss_cons (ps_if (pt_cmpR op_ne (pe_callB (cr_reprK (K := K) hg hu) (by rfl) T.n_repr (by decide +kernel) (by exact (pa_cons (pe_callK (G_weight T) (hr.mono (by decide)) (by rfl) T.m_weight T.F_weight.kp (kb_weight T) pass0 (by exact (pk_cons (pv 3) (pk_cons (pv 0) pk_nil)))) pa_nil))) (pe_callB (cr_reprK (K := K) hg hu) (by rfl) T.n_repr (by decide +kernel) (by exact (pa_cons (pe_call (G__law_weight T) (hr.mono (by decide)) (by rfl) T.m__law_weight T.F__law_weight.kp T.b__law_weight .nil pass0 (by exact (pa_cons (pv 0) (pa_cons (pv 1) (pa_cons (pv 2) pa_nil))))) pa_nil))) (nomark _)) (pss_one (ps_ret pe_bl)) pss_nil) (pss_one (ps_ret (pe_cmpR op_eq (pe_callB (cr_reprK (K := K) hg hu) (by rfl) T.n_repr (by decide +kernel) (by exact (pa_cons (pe_callK (G_room T) (hr.mono (by decide)) (by rfl) T.m_room T.F_room.kp (kb_room T) pass0 (by exact (pk_cons (pv 3) (pk_cons (pv 0) pk_nil)))) pa_nil))) (pe_callB (cr_reprK (K := K) hg hu) (by rfl) T.n_repr (by decide +kernel) (by exact (pa_cons (pe_call (G__law_room T) (hr.mono (by decide)) (by rfl) T.m__law_room T.F__law_room.kp T.b__law_room .nil pass0 (by exact (pa_cons (pv 0) (pa_cons (pv 1) (pa_cons (pv 2) pa_nil))))) pa_nil))) (nomark _)))))), ?_⟩
  obtain ⟨t, a, l, k, W, S, ms, ps, L, rfl, hw, g, ha, hl, pL, nw, mk, hQ⟩ := h
  walk_at "rd"
  refine rd_make ?_
  walk_at "rd"
  intro s1 dx1 hs1 hd1 _
  refine net_goodR hs1 hd1 (.lst ha) nw.m0 nw.ml nw.mb (.lst hl) (lk_pairs pL nw.g.rng) nw.g nw.srt (norm_good nw.g) (fun H1 S1 N1 => ⟨rfl, ?_⟩)
  have b1 := wt_bd g nw mk
  have p200 : (2 : Nat) ^ 200 > 100000000000000 := by decide
  have r1 := rep_int (i := wt W S ms L) (by omega)
  have r2 := rep_int (room_bd g nw mk)
  walk_at "rd"
  refine rd_callK ?_
  walk_at "rd"
  refine ⟨rfl, t, s1, k, W, S, ms, L, rfl, hw.same S1, g, N1, nw, mk, fun H2 S2 => ?_⟩
  have S12 := S1.trans S2
  walk_at "rd"
  refine rd_repr (.int _) r1.s r1.n r1.h r1.l ?_
  walk_at "rd"
  refine ⟨t, a, l, k, W, S, ms, ps, L, rfl, hw.same S12, g, S12 _ _ ha, S12 _ _ hl, pairs_same pL S12, nw, mk, fun H3 S3 => ?_⟩
  have S13 := S12.trans S3
  walk_at "rd"
  refine rd_repr (.int _) r1.s r1.n r1.h r1.l ?_
  refine rd_neS ?_
  walk_at "rd"
  refine iteF' (by simp) ?_
  walk_at "rd"
  refine rd_callK ?_
  walk_at "rd"
  refine ⟨rfl, t, s1, k, W, S, ms, L, rfl, hw.same S13, g, net_same N1 (S2.trans S3), nw, mk, fun H4 S4 => ?_⟩
  have S14 := S13.trans S4
  walk_at "rd"
  refine rd_repr (.int _) r2.s r2.n r2.h r2.l ?_
  walk_at "rd"
  refine ⟨t, a, l, k, W, S, ms, ps, L, rfl, hw.same S14, g, S14 _ _ ha, S14 _ _ hl, pairs_same pL S14, nw, mk, fun H5 S5 => ?_⟩
  walk_at "rd"
  refine rd_repr (.int _) r2.s r2.n r2.h r2.l ?_
  refine rd_eqS ?_
  rw [decide_eq_true rfl]
  exact hQ H5 (S14.trans S5)
theorem G__law_star_right : FnR P w K mg base CX0 (CG 11) T.f__law_star_right T.d__law_star_right ["weighing", "mode", "row", "to", "added"] spSR := by
  obtain ⟨oc, od, kV, doc, pm, an, cdv, ct, osl, eF, lk, hcd⟩ := T.F__law_star_right.ex
  rw [eF] at lk
  rw [eF]
  refine fnG_of lk hcd sc__law_star_right (fun vs H Q E h => ?_) fun A outer s H vs Q E hr hg h => ?_
  · obtain ⟨t, r, k, W, S, m, to, ns, rfl, _⟩ := h
    rfl
  have hu : (A.deeper (envOfC "_law_star_right" (defScope s__law_star_right) s.heap.objs.size T.f__law_star_right cdv)).units + 66 < cLine := by
    have := hr.un
    omega
  refine ⟨_, PSs.nox (pss_cons (ps_setLc (i := 5) (own := [("at", 7)]) (by rfl) sc__law_star_right.nd rfl rfl (sw_true rfl rfl rfl (by decide +kernel)) (pi_range1 (by rfl) T.n_range (by exact (pa_cons (pe_callB (cr_lenK (K := K)) (by rfl) T.n_len (by decide +kernel) (by exact (pa_cons (pv 2) pa_nil))) pa_nil))) (blkOk_by (own := [("at", 7)]) (N := N__law_star_right) (sc := defScope s__law_star_right) (by decide +kernel)) (fun _ _ _ _ _ => (pg_name (i := 7) sc__law_star_right.nd rfl (.inl rfl))) (fun _ _ _ _ _ => pts_nil) (fun _ _ _ _ _ => (pe_tup (pa_cons pe_int (pa_cons (pe_op op_add (pv 7) pe_int) pa_nil)))) ) (pss_cons (ps_set (i := 6) sc__law_star_right.nd rfl (.inl rfl) (pe_call (G_weight T) (hr.mono (by decide)) (by rfl) T.m_weight T.F_weight.kp T.b_weight .nil pass0 (by exact (pa_cons (pv 0) (pa_cons (pe_make T.M_Network (G_Network_init T) (hr.mono (by decide)) (by rfl) T.m_Network T.b_Network_init .nil passL (by exact (pa_cons (pe_op op_catW (pe_tup (pa_cons (pv 1) pa_nil)) (pv 2)) (pa_cons (pv 5) pa_nil)))) pa_nil))))) (pss_one (ps_ret (pe_cmpR op_eq (pe_callB (cr_reprK (K := K) hg hu) (by rfl) T.n_repr (by decide +kernel) (by exact (pa_cons (pe_op op_sub (pe_call (G_weight T) (hr.mono (by decide)) (by rfl) T.m_weight T.F_weight.kp T.b_weight .nil pass0 (by exact (pa_cons (pv 0) (pa_cons (pe_make T.M_Network (G_Network_init T) (hr.mono (by decide)) (by rfl) T.m_Network T.b_Network_init .nil passL (by exact (pa_cons (pe_op op_catW (pe_tup (pa_cons (pv 3) pa_nil)) (pv 2)) (pa_cons (pv 5) pa_nil)))) pa_nil)))) (pv 6)) pa_nil))) (pe_callB (cr_reprK (K := K) hg hu) (by rfl) T.n_repr (by decide +kernel) (by exact (pa_cons (pv 4) pa_nil))) (nomark _)))))), ?_⟩
  obtain ⟨t, r, k, W, S, m, to, ns, rfl, hw, g, hrow, ln, srt, m0, m1, t0, t1, hns, hQ⟩ := h
  have k4 := g.k4
  have nw : Nw (m :: ns) (starL ns.length) := star_nw rfl ln m0 (by omega) fun x hx => by have := hns x hx; omega
  have nw2 : Nw (to :: ns) (starL ns.length) := star_nw rfl ln t0 (by omega) fun x hx => by have := hns x hx; omega
  have mk : ∀ x ∈ m :: ns, x < (k : Nat) := fun x hx => by
    rcases List.mem_cons.mp hx with z | z
    · omega
    · exact (hns x z).2
  have mk2 : ∀ x ∈ to :: ns, x < (k : Nat) := fun x hx => by
    rcases List.mem_cons.mp hx with z | z
    · omega
    · exact (hns x z).2
  have e1 : wt W S (to :: ns) (starL ns.length) - wt W S (m :: ns) (starL ns.length) = eff W S m ns to := by
    have h := wt_add (s := 0) (to := to) g nw mk (Int.le_refl 0) (by show (0 : Int) < ((ns.length + 1 : Nat) : Int); omega) t0 t1
    rw [star_view rfl srt] at h
    exact h
  have p200 : (2 : Nat) ^ 200 > 100000000000000 := by decide
  have b1 := wt_bd g nw mk
  have b2 := wt_bd g nw2 mk2
  have r1 := rep_int (i := eff W S m ns to) (by omega)
  walk_at "rd"
  refine rd_lenTup hrow ?_
  rw [List.length_map]
  walk_at "rd"
  refine ⟨by omega, by omega, fun D hD => ?_⟩
  have e0 : ((ns.length : Nat) : Int).toNat = ns.length := by omega
  rw [e0]
  refine lc_range (lo := 0) (n := ns.length) (fun i H' => Same H H' ∧ ∃ ps : List Addr, H' D = some (.lst (ps.map V.ref)) ∧ Paired (PairAt H') ps (starL i))
    ⟨Same.fresh hD, [], upd_same, .nil⟩ (fun i H1 hi pv => ?_) (fun H1 pv => ?_)
  · obtain ⟨S1, ps, hps, pP⟩ := pv
    rw [Int.zero_add]
    walk_at "rd"
    refine ⟨rfl, ?_⟩
    walk_at "rd"
    intro u H2 z2 S2 h2
    have hps2 := S2 _ _ hps
    have lp := paired_len pP
    unfold starL at lp
    rw [List.length_map, List.length_range] at lp
    refine ⟨_, hps2, ?_, same_put (S1.trans S2) hD, ps ++ [u], by rw [upd_same]; simp, ?_⟩
    · rw [List.length_map]
      exact Nat.lt_of_le_of_lt (by omega : ps.length ≤ 1000) (by decide)
    · have e2 : starL (i + 1) = starL i ++ [((0 : Int), ((i : Nat) : Int) + 1)] := by unfold starL; rw [List.range_succ, List.map_append]; rfl
      rw [e2]
      exact pairs_upd (Paired.snoc (pairs_same pP S2) h2) hps2
  · obtain ⟨S1, ps, hps, pP⟩ := pv
    walk_at "rd"
    refine rd_make ?_
    walk_at "rd"
    intro u H2 z2 S2 h2
    walk_at "rd"
    have S12 := S1.trans S2
    refine rd_catW (Tup.of h2) (hrow.same S12) (by rw [List.length_map]; show 1 + _ ≤ _; omega) fun H3 a3 S3 h3 => ?_
    walk_at "rd"
    intro s1 dx1 hs1 hd1 _
    have hm3 : Tup H3 a3 ((m :: ns).map V.int) := h3
    have S23 := S2.trans S3
    refine net_goodR hs1 hd1 (.tup hm3) nw.m0 nw.ml nw.mb (.lst (S23 _ _ hps)) (lk_pairs (pairs_same pP S23) nw.g.rng) nw.g nw.srt (norm_good nw.g) (fun H4 S4 N4 => ⟨rfl, ?_⟩)
    have S14 := (S12.trans S3).trans S4
    walk_at "rd"
    refine ⟨t, s1, k, W, S, _, _, rfl, hw.same S14, g, N4, nw, mk, fun H5 S5 => ?_⟩
    have S15 := S14.trans S5
    walk_at "rd"
    refine rd_make ?_
    walk_at "rd"
    intro u6 H6 z6 S6 h6
    walk_at "rd"
    have S16 := S15.trans S6
    refine rd_catW (Tup.of h6) (hrow.same S16) (by rw [List.length_map]; show 1 + _ ≤ _; omega) fun H7 a7 S7 h7 => ?_
    walk_at "rd"
    intro s2 dx2 hs2 hd2 _
    have hm7 : Tup H7 a7 ((to :: ns).map V.int) := h7
    have S27 := (((S23.trans S4).trans S5).trans S6).trans S7
    refine net_goodR hs2 hd2 (.tup hm7) nw2.m0 nw2.ml nw2.mb (.lst (S27 _ _ hps)) (lk_pairs (pairs_same pP S27) nw2.g.rng) nw2.g nw2.srt (norm_good nw2.g) (fun H8 S8 N8 => ⟨rfl, ?_⟩)
    have S18 := (S16.trans S7).trans S8
    walk_at "rd"
    refine ⟨t, s2, k, W, S, _, _, rfl, hw.same S18, g, N8, nw2, mk2, fun H9 S9 => ?_⟩
    walk_at "rd"
    rw [e1]
    refine rd_repr (.int _) r1.s r1.n r1.h r1.l ?_
    walk_at "rd"
    refine rd_repr (.int _) r1.s r1.n r1.h r1.l ?_
    refine rd_eqS ?_
    rw [decide_eq_true rfl]
    exact hQ H9 (S18.trans S9)
end
end K65

namespace K65
open PySem PySem.Spec PyProof.Rows L2 KX
local macro_rules | `(tactic| walk_at "rd1") => `(tactic| first
  | with_reducible refine rd_seq ?_
  | with_reducible refine rd_for ?_
  | with_reducible refine rd_lc ?_
  | with_reducible refine rd_asg ?_
  | ((with_reducible refine' rd_var ?rdv ?_); (case rdv => exact rfl))
  | with_reducible refine rd_c ?_
  | with_reducible refine rd_op ?_
  | with_reducible refine rd_un ?_
  | with_reducible refine rd_cons ?_
  | with_reducible refine rd_nil ?_
  | with_reducible refine rd_call ?_
  | with_reducible refine rd_cb ?_
  | with_reducible refine rd_tB ?_
  | with_reducible refine rd_test ?_
  | with_reducible refine rd_bl ?_
  | with_reducible refine rd_rI0 ?_
  | with_reducible refine rd_eqI ?_
  | with_reducible refine rd_neI ?_
  | with_reducible refine rd_rU ?_
  | with_reducible refine rd_name ?_
  | with_reducible refine rd_ifs ?_
  | with_reducible refine rd_and ?_
  | with_reducible refine rd_or ?_
  | with_reducible refine rd_not ?_
  | with_reducible refine rd_yes ?_
  | with_reducible refine rd_andV ?_
  | with_reducible refine rd_orV ?_
  | with_reducible refine rd_notV ?_
  | with_reducible refine rd_if ?_
  | with_reducible refine rd_isN ?_
  | with_reducible refine rd_iT ?_
  | with_reducible refine rd_iF ?_
  | with_reducible refine rd_ret ?_
  | with_reducible refine rd_retN ?_
  | with_reducible refine rd_drop ?_
  | with_reducible refine rd_next ?_
  | with_reducible refine rd_cont ?_
  | with_reducible refine rd_brk ?_
  | with_reducible refine rd_nx ?_
  | with_reducible refine rd_rt ?_
  | with_reducible refine rd_ct ?_
  | with_reducible refine rd_bk ?_
  | with_reducible refine rd_par ?_
  | with_reducible refine rd_par3 ?_
  | with_reducible refine rd_par2 ?_
  | with_reducible refine rd_par33 ?_
  | with_reducible refine rd_gcons ?_
  | with_reducible refine rd_gnil ?_
  | with_reducible refine rd_sub ?_
  | with_reducible refine rd_tup ?_
  | with_reducible refine rd_lst ?_
  | ((with_reducible refine rd_tupT ?hl ?_); (case hl => exact Nat.le_of_ble_eq_true rfl))
  | ((with_reducible refine rd_lstT ?hl ?_); (case hl => exact Nat.le_of_ble_eq_true rfl))
  | with_reducible refine rd_bm ?_
  | with_reducible refine rd_bm0 ?_
  | with_reducible refine rd_sl ?_
  | with_reducible refine rd_noP ?_
  | with_reducible refine rd_part ?_
  | with_reducible refine rd_int ?_
  | with_reducible refine rd_int1 ?_
  | with_reducible refine rd_fld ?_
  | with_reducible refine rd_then ?_
  | with_reducible refine rd_raise ?_
  | with_reducible refine rd_one ?_
  | with_reducible refine rd_sfld ?_
  | with_reducible refine rd_ilist ?_
  | with_reducible refine rd_itup ?_
  | with_reducible refine rd_rng1 ?_
  | with_reducible refine rd_enum ?_
  | with_reducible refine rd_enumT ?_)
local macro_rules | `(tactic| walk_at "rd") => `(tactic| repeat (walk_at "rd1"))
theorem kb_effect {K : PySem.W.Frag} {mg : Str → Option Value} (T : TX K mg) : KBn K T.d_effect ["weighing", "change"] 0 ["change", "weighing"] (fun _ ws => match ws with | [v0, v1] => [v1, v0] | ws => ws) (fun _ ws => match ws with | [v0, v1] => [v1, v0] | ws => ws) := by
  obtain ⟨oc, od, kV, doc, pm, an, cdv, ct, osl, e, lk, hcd⟩ := T.F_effect.ex
  rw [e]
  refine ⟨fun s us ws _ h0 h2 => ?_, fun {vs us zs ws} _ r => ?_⟩
  · match us, ws, h0, h2 with
    | [], [v0, v1], _, _ => exact .of_eq rfl
  · exact match r with
      | .nil => .nil
      | .cons a0 (.nil) => .cons a0 (.nil)
      | .cons a0 (.cons a1 (.nil)) => .cons a1 (.cons a0 (.nil))
      | .cons a0 (.cons a1 (.cons a2 (r))) => .cons a0 (.cons a1 (.cons a2 (r)))
theorem fix_view {H H' : Hp} {p q v : Addr} {w : Int × List Int} (f : Fix p q H H') (d : Deal H p q) (h : ViewAt H v w) : ViewAt H' v w := by
  obtain ⟨r, h1, h2⟩ := h
  exact ⟨r, f.keep d h1 fun _ z => (by cases z), f.keep d h2 fun _ z => (by cases z)⟩
theorem fix_pairs {H H' : Hp} {p q : Addr} {ps : List Addr} {L : List (Int × Int)} (f : Fix p q H H') (d : Deal H p q) (h : Paired (PairAt H) ps L) : Paired (PairAt H') ps L :=
  paired_mono h fun _ _ z => f.keep d z fun _ z => by cases z
def spLaw (K : PySem.W.Frag) : L2.Sp := fun vs H Q _ => ∃ (a : Addr) (ns : List Int), vs = [.ref a] ∧ SqL K H a (ns.map V.int) ∧ ∀ H', Q (.bl true) H'
section
variable {P : Program} {w : World} {K : PySem.W.Frag} {mg : Str → Option Value} {base : Heap} (T : TX K mg)
theorem G_law : FnR P w K mg base CX0 (CG 13) T.f_law T.d_law ["script"] (spLaw K) := by
  obtain ⟨oc, od, kV, doc, pm, an, cdv, ct, osl, eF, lk, hcd⟩ := T.F_law.ex
  rw [eF] at lk
  rw [eF]
  refine fnG_of lk hcd sc_law (fun vs H Q E h => ?_) fun A outer s H vs Q E hr hg h => ?_
  · obtain ⟨a, ns, rfl, _⟩ := h
    rfl
  have hu : (A.deeper (envOfC "law" (defScope s_law) s.heap.objs.size T.f_law cdv)).units + 66 < cLine := by
    have := hr.un
    omega
  refine ⟨_, PSs.nox (pss_cons (ps_set (i := 1) sc_law.nd rfl (.inl rfl) (pe_call (G__law_draw T) (hr.mono (by decide)) (by rfl) T.m__law_draw T.F__law_draw.kp T.b__law_draw .nil pass0 (by exact (pa_cons (pv 0) (pa_cons pe_int pa_nil))))) (pss_cons (ps_for PassesOwn.never rfl (pi_range1 (by rfl) T.n_range (by exact (pa_cons pe_int pa_nil))) (pg_name (i := 2) sc_law.nd rfl (.inl rfl)) (pss_cons (ps_set (i := 3) sc_law.nd rfl (.inl rfl) (pe_call (G__law_of T) (hr.mono (by decide)) (by rfl) T.m__law_of T.F__law_of.kp T.b__law_of .nil pass0 (by exact (pa_cons (pv 1) (pa_cons (pe_lst (pa_cons pe_int (pa_cons pe_int (pa_cons pe_int (pa_cons pe_int (pa_cons pe_int (pa_cons pe_int (pa_cons pe_int pa_nil)))))))) pa_nil))))) (pss_cons (ps_asg (pe_call (G__law_network T) (hr.mono (by decide)) (by rfl) T.m__law_network T.F__law_network.kp T.b__law_network .nil pass0 (by exact (pa_cons (pv 1) (pa_cons (pv 3) (pa_cons (pe_op op_add pe_int (pe_call (G__law_any T) (hr.mono (by decide)) (by rfl) T.m__law_any T.F__law_any.kp T.b__law_any .nil pass0 (by exact (pa_cons (pv 1) (pa_cons pe_int pa_nil))))) pa_nil))))) (pg_tupK (K := K) (n := 2) (by rfl) (pgs_cons (pg_name (i := 4) sc_law.nd rfl (.inl rfl)) (pgs_cons (pg_name (i := 5) sc_law.nd rfl (.inl rfl)) pgs_nil)))) (pss_cons (ps_set (i := 6) sc_law.nd rfl (.inl rfl) (pe_call (G__law_weighing T) (hr.mono (by decide)) (by rfl) T.m__law_weighing T.F__law_weighing.kp T.b__law_weighing .nil pass0 (by exact (pa_cons (pv 1) (pa_cons (pv 3) pa_nil))))) (pss_cons (ps_if (PW.pt (pw_or (pt_not (pt_val (pe_callR (G__law_kinds_right T) (fun _ _ _ _ _ => ⟨hr.mono (by decide), hg⟩) (by rfl) T.m__law_kinds_right T.F__law_kinds_right.kp T.b__law_kinds_right pass0 (by exact (pa_cons (pv 1) (pa_cons (pv 3) (pa_cons (pv 6) pa_nil))))))) (pw_or1 (pt_not (pt_val (pe_callR (G__law_network_right T) (fun _ _ _ _ _ => ⟨hr.mono (by decide), hg⟩) (by rfl) T.m__law_network_right T.F__law_network_right.kp T.b__law_network_right pass0 (by exact (pa_cons (pv 6) (pa_cons (pv 4) (pa_cons (pv 5) pa_nil)))))))))) (pss_one (ps_ret pe_bl)) pss_nil) (pss_one (ps_for PassesOwn.never rfl (pi_range1 (by rfl) T.n_range (by exact (pa_cons (pe_ifExp (pt_cmpR op_gt (pv 3) pe_int (nomark _)) (pe_op op_add pe_int (pe_call (G__law_any T) (hr.mono (by decide)) (by rfl) T.m__law_any T.F__law_any.kp T.b__law_any .nil pass0 (by exact (pa_cons (pv 1) (pa_cons pe_int pa_nil))))) pe_int) pa_nil))) (pg_name (i := 7) sc_law.nd rfl (.inl rfl)) (pss_cons (ps_set (i := 8) sc_law.nd rfl (.inl rfl) (pe_call (G__law_any T) (hr.mono (by decide)) (by rfl) T.m__law_any T.F__law_any.kp T.b__law_any .nil pass0 (by exact (pa_cons (pv 1) (pa_cons (pe_callB (cr_lenK (K := K)) (by rfl) T.n_len (by decide +kernel) (by exact (pa_cons (pv 4) pa_nil))) pa_nil))))) (pss_cons (ps_asg (pe_ix (ix_listK (K := K)) (pe_call (G__law_views T) (hr.mono (by decide)) (by rfl) T.m__law_views T.F__law_views.kp T.b__law_views .nil pass0 (by exact (pa_cons (pv 4) (pa_cons (pv 5) pa_nil)))) (pv 8) (fun _ _ => rfl)) (pg_tupK (K := K) (n := 2) (by rfl) (pgs_cons (pg_name (i := 9) sc_law.nd rfl (.inl rfl)) (pgs_cons (pg_name (i := 10) sc_law.nd rfl (.inl rfl)) pgs_nil)))) (pss_cons (ps_set (i := 11) sc_law.nd rfl (.inl rfl) (pe_op op_mod (pe_callTy call_int1 (by rfl) T.n_int (by decide +kernel) (by exact (pa_cons (pe_op op_add (pe_op op_add (pv 9) pe_int) (pe_call (G__law_any T) (hr.mono (by decide)) (by rfl) T.m__law_any T.F__law_any.kp T.b__law_any .nil pass0 (by exact (pa_cons (pv 1) (pa_cons (pe_op op_sub (pv 3) pe_int) pa_nil))))) pa_nil))) (pv 3))) (pss_cons (ps_set (i := 12) sc_law.nd rfl (.inl rfl) (pe_op op_cat (pe_op op_cat (pe_slice (sl_listK (K := K)) (pv 4) po_none (po_some (pv 8))) (pe_lst (pa_cons (pv 11) pa_nil))) (pe_slice (sl_listK (K := K)) (pv 4) (po_some (pe_op op_add (pv 8) pe_int)) po_none))) (pss_cons (ps_set (i := 13) sc_law.nd rfl (.inl rfl) (pe_op op_sub (pe_call (G__law_weight T) (hr.mono (by decide)) (by rfl) T.m__law_weight T.F__law_weight.kp T.b__law_weight .nil pass0 (by exact (pa_cons (pv 6) (pa_cons (pv 12) (pa_cons (pv 5) pa_nil))))) (pe_call (G__law_weight T) (hr.mono (by decide)) (by rfl) T.m__law_weight T.F__law_weight.kp T.b__law_weight .nil pass0 (by exact (pa_cons (pv 6) (pa_cons (pv 4) (pa_cons (pv 5) pa_nil))))))) (pss_cons (ps_if (pt_cmpR op_ne (pe_callB (cr_reprK (K := K) hg hu) (by rfl) T.n_repr (by decide +kernel) (by exact (pa_cons (pe_callK (G_effect T) (hr.mono (by decide)) (by rfl) T.m_effect T.F_effect.kp (kb_effect T) pass0 (by exact (pk_cons (pe_tup (pa_cons (pv 9) (pa_cons (pv 10) (pa_cons (pv 11) pa_nil)))) (pk_cons (pv 6) pk_nil)))) pa_nil))) (pe_callB (cr_reprK (K := K) hg hu) (by rfl) T.n_repr (by decide +kernel) (by exact (pa_cons (pv 13) pa_nil))) (nomark _)) (pss_one (ps_ret pe_bl)) pss_nil) (pss_cons (ps_if (PW.pt (pw_or (pt_not (pt_val (pe_callR (G__law_network_right T) (fun _ _ _ _ _ => ⟨hr.mono (by decide), hg⟩) (by rfl) T.m__law_network_right T.F__law_network_right.kp T.b__law_network_right pass0 (by exact (pa_cons (pv 6) (pa_cons (pv 12) (pa_cons (pv 5) pa_nil))))))) (pw_or1 (pt_not (pt_val (pe_callR (G__law_star_right T) (fun _ _ _ _ _ => ⟨hr.mono (by decide), hg⟩) (by rfl) T.m__law_star_right T.F__law_star_right.kp T.b__law_star_right pass0 (by exact (pa_cons (pv 6) (pa_cons (pv 9) (pa_cons (pv 10) (pa_cons (pv 11) (pa_cons (pv 13) pa_nil)))))))))))) (pss_one (ps_ret pe_bl)) pss_nil) (pss_one (ps_set (i := 4) sc_law.nd rfl (.inl rfl) (pv 12))))))))))))))))) (pss_one (ps_ret pe_bl)))), ?_⟩
  obtain ⟨a, ns0, rfl, hS, hQ⟩ := h
  walk_at "rd"
  refine ⟨a, ns0, 65, rfl, hS, by decide, by decide, fun H0 p q S0 np nq d0 => ?_⟩
  walk_at "rd"
  refine ⟨by decide, by decide, ?_⟩
  clear hS S0 np nq
  refine for_range (lo := 0) (n := 2) (fun i σ H' => (∃ o2 o3 o4 o5 o6 o7 o8 o9 o10 o11 o12 o13, σ = [some (.ref a), some (.ref p), o2, o3, o4, o5, o6, o7, o8, o9, o10, o11, o12, o13]) ∧ Deal H' p q)
    ⟨⟨_, _, _, _, _, _, _, _, _, _, _, _, rfl⟩, d0⟩ (fun i σ H1 hi pv => ?_) (fun σ H1 pv => ?_)
  · clear d0
    obtain ⟨⟨o2, o3, o4, o5, o6, o7, o8, o9, o10, o11, o12, o13, rfl⟩, d1⟩ := pv
    walk_at "rd"
    intro kl H2 z2 S2 hkl
    walk_at "rd"
    have nk := d1.nes z2
    refine ⟨p, q, kl, _, rfl, d1.same S2, nk.1, nk.2, hkl, by show 0 < 7; decide, by show 7 < 1000; decide, fun H3 kx hkx d3 f3 => ?_⟩
    obtain ⟨k, rfl, k1, k4⟩ : ∃ k : Nat, kx = V.int ((k : Nat) : Int) ∧ 1 ≤ k ∧ k ≤ 4 := by
      simp only [List.mem_cons, List.not_mem_nil, or_false] at hkx
      rcases hkx with h | h | h | h | h | h | h <;> subst h
      · exact ⟨2, rfl, by decide, by decide⟩
      · exact ⟨2, rfl, by decide, by decide⟩
      · exact ⟨2, rfl, by decide, by decide⟩
      · exact ⟨3, rfl, by decide, by decide⟩
      · exact ⟨3, rfl, by decide, by decide⟩
      · exact ⟨4, rfl, by decide, by decide⟩
      · exact ⟨1, rfl, by decide, by decide⟩
    clear hkx hkl nk z2
    walk_at "rd"
    refine ⟨p, q, 7, rfl, d3, by decide, by decide, fun H4 m d4 f4 m0 m7 => ?_⟩
    walk_at "rd"
    obtain ⟨n, hn⟩ : ∃ n : Nat, 1 + m = (n : Nat) := Int.eq_ofNat_of_zero_le (by omega)
    rw [hn]
    refine ⟨p, q, k, n, rfl, d4, by omega, by omega, by omega, by omega, fun H5 t am l ms ps L d5 f5 ht am0 l0 al ap aq lp lq hms lms bms hps pL g srt => ?_⟩
    refine rd_gtup (Tup.of ht) rfl ?_
    subst lms
    have nw : Nw ms L := ⟨g, srt, fun x hx => by have := bms x hx; omega, fun z => (by rw [z] at hn; simp at hn; omega), by omega⟩
    have mk : ∀ x ∈ ms, x < ((k : Nat) : Int) := fun x hx => (bms x hx).2
    clear ht al am0 l0 f5 f4 f3 S2 d1 d3 d4
    walk_at "rd"
    refine ⟨p, q, k, rfl, d5, k1, k4, fun H6 tw W S d6 f6 hw6 gw => ?_⟩
    walk_at "rd"
    refine ⟨p, q, tw, k, W, S, rfl, d6, hw6, gw, fun H7 d7 f7 => ?_⟩
    walk_at "rd"
    refine iteF' rfl ?_
    walk_at "rd"
    have K67 := Kept.fix f7 d6 d7
    have f57 := f6.trans f7
    have hms7 := f57 _ _ ap aq hms
    have hps7 := f57 _ _ lp lq hps
    have pL7 := fix_pairs f57 d5 pL
    have hw7 := hw6.kept K67
    refine ⟨tw, am, l, k, W, S, ms, ps, L, rfl, hw7, gw, hms7, hps7, pL7, nw, mk, fun H8 S8 => ?_⟩
    walk_at "rd"
    refine iteF' rfl ?_
    have d8 := d7.same S8
    have hms8 := S8 _ _ hms7
    have hps8 := S8 _ _ hps7
    have pL8 := pairs_same pL7 S8
    have hw8 := hw7.same S8
    clear hms hps pL hw6 hms7 hps7 pL7 hw7 K67 f57 f6 f7 d5 d6 d7 S8
    walk_at "rd"
    by_cases ck : 1 < k
    · refine iteT' (decide_eq_true (by omega)) ?_
      walk_at "rd"
      refine ⟨p, q, 5, rfl, d8, by decide, by decide, fun H9 c d9 f9 c0 c5 => ?_⟩
      walk_at "rd"
      refine ⟨by omega, by omega, ?_⟩
      have p200 : (2 : Nat) ^ 200 > 100000000000000 := by decide
      refine for_range (lo := 0) (n := (1 + c).toNat) (fun j σ H' => ∃ (am : Addr) (ms : List Int) (o7 o8 o9 o10 o11 o12 o13 : Option V), σ = [some (.ref a), some (.ref p), some (.int (0 + (i : Nat))), some (.int (k : Nat)), some (.ref am), some (.ref l), some (.ref tw), o7, o8, o9, o10, o11, o12, o13] ∧
          Deal H' p q ∧ Fix p q H8 H' ∧ am ≠ p ∧ am ≠ q ∧ H' am = some (.lst (ms.map V.int)) ∧ Nw ms L ∧ ∀ x ∈ ms, x < ((k : Nat) : Int))
        ⟨am, ms, _, _, _, _, _, _, _, rfl, d9, f9, ap, aq, f9 _ _ ap aq hms8, nw, mk⟩ (fun j σ H1 hj pv => ?_) (fun σ H1 pv => ?_)
      · clear hms8 nw mk ap aq f9 d9 g srt bms hn
        obtain ⟨am, ms, o7, o8, o9, o10, o11, o12, o13, rfl, d1, f1, ap, aq, hms1, nw, mk⟩ := pv
        have l0 : 0 < ms.length := List.length_pos_iff.mpr nw.m0
        have l1 := nw.ml
        walk_at "rd"
        refine rd_len hms1 ?_
        rw [List.length_map]
        walk_at "rd"
        refine ⟨p, q, _, rfl, d1, by omega, by omega, fun H2 s d2 f2 s0 s1 => ?_⟩
        walk_at "rd"
        have f02 := f1.trans f2
        have hms2 := f2 _ _ ap aq hms1
        have hps2 := f02 _ _ lp lq hps8
        have pL2 := fix_pairs f02 d8 pL8
        refine ⟨am, l, ms, ps, L, rfl, hms2, hps2, pL2, nw.g, nw.ml, nw.lL, fun H3 t vs S3 z3 ht pv3 => ?_⟩
        have es : (viewsOf ms L)[s.toNat]? = some (viewOf ms L s) := by
          unfold viewsOf
          rw [List.getElem?_map, List.getElem?_range (by omega)]
          have : ((s.toNat : Nat) : Int) = s := by omega
          show some (viewOf ms L ((s.toNat : Nat) : Int)) = _
          rw [this]
        obtain ⟨v, ev, hv⟩ := paired_get' pv3 es
        obtain ⟨v0, v1, v2, v3⟩ := view_ok nw mk (List.mem_of_getElem? es)
        obtain ⟨r, h1, h2⟩ := id hv
        have e_at : atI (vs.map V.ref) s = some (.ref v) := by
          have : s = ((s.toNat : Nat) : Int) := by omega
          rw [this]
          exact atI_nat (by rw [List.getElem?_map, ev]; rfl)
        walk_at "rd"
        refine rd_ixL ht e_at ?_
        refine rd_gtup (Tup.of h1) rfl ?_
        walk_at "rd"
        have d3 := d2.same S3
        refine ⟨p, q, _, rfl, d3, by omega, by omega, fun H4 y d4 f4 y0 y1 => ?_⟩
        walk_at "rd"
        refine .inl ⟨_, rfl, ?_⟩
        walk_at "rd"
        refine rd_rI (by omega) ?_
        have t0 : 0 ≤ ((viewOf ms L s).1 + 1 + y) % (k : Nat) := Int.emod_nonneg _ (by omega)
        have t1 : ((viewOf ms L s).1 + 1 + y) % (k : Nat) < (k : Nat) := Int.emod_lt_of_pos _ (by omega)
        generalize ((viewOf ms L s).1 + 1 + y) % (k : Nat) = to at t0 t1
        have f24 := (Fix.same (p := p) (q := q) S3).trans f4
        have f04 := f02.trans f24
        have hms4 := f24 _ _ ap aq hms2
        have h1' := f4.keep d3 h1 fun _ z => by cases z
        have h2' := f4.keep d3 h2 fun _ z => by cases z
        clear ht hv pv3 z3 ev e_at es hms1 hms2 hps2 pL2 h1 h2
        walk_at "rd"
        refine rd_slL hms4 ?_
        rw [cut_take _ s0 (by rw [List.length_map]; omega), ← List.map_take]
        intro b1 H5 z5 S5 hb1
        walk_at "rd"
        intro b2 H6 z6 S6 hb2
        refine rd_cat (S6 _ _ hb1) hb2 (by rw [List.length_map, List.length_take]; show _ + 1 ≤ _; omega) ?_
        intro b3 H7 z7 S7 hb3
        walk_at "rd"
        have S47 := (S5.trans S6).trans S7
        refine rd_slL (S47 _ _ hms4) ?_
        rw [cut_drop _ (by omega) (by rw [List.length_map]; omega), ← List.map_drop]
        intro b4 H10 z10 S10 hb4
        refine rd_cat (S10 _ _ hb3) hb4 (by simp; omega) ?_
        intro b5 H11 z11 S11 hb5
        have es1 : (s + 1).toNat = s.toNat + 1 := by omega
        have e5 : (ms.take s.toNat).map V.int ++ [V.int to] ++ (ms.drop (s + 1).toNat).map V.int = (setM ms s to).map V.int := by
          rw [es1]
          unfold setM
          rw [← cut_set ms to (by omega : s.toNat < ms.length)]
          simp
        rw [e5] at hb5
        have S4b := (S47.trans S10).trans S11
        have d11 := d4.same S4b
        have f0b := f04.trans (Fix.same S4b)
        have nb5 := (d4.same (S47.trans S10)).nes z11
        have hmsb := S4b _ _ hms4
        have hpsb := f0b _ _ lp lq hps8
        have pLb := fix_pairs f0b d8 pL8
        have hwb := hw8.kept (Kept.fix f0b d8 d11)
        have h1b := S4b _ _ h1'
        have h2b := S4b _ _ h2'
        have nw2 : Nw (setM ms s to) L := setM_nw nw t0 (by omega)
        have mk2 : ∀ x ∈ setM ms s to, x < ((k : Nat) : Int) := setM_lt mk t1
        have ea : wt W S (setM ms s to) L - wt W S ms L = eff W S (viewOf ms L s).1 (viewOf ms L s).2 to := wt_add gw nw mk s0 s1 t0 t1
        clear hb1 hb2 hb3 hb4 z5 z6 z7 z10 S5 S6 S7 S10 S47 hms4 h1' h2' z11
        walk_at "rd"
        refine ⟨tw, b5, l, k, W, S, _, ps, L, rfl, hwb, gw, hb5, hpsb, pLb, nw2, mk2, fun H12 S12 => ?_⟩
        walk_at "rd"
        refine ⟨tw, am, l, k, W, S, ms, ps, L, rfl, hwb.same S12, gw, S12 _ _ hmsb, S12 _ _ hpsb, pairs_same pLb S12, nw, mk, fun H13 S13 => ?_⟩
        walk_at "rd"
        rw [ea]
        have S1d := S12.trans S13
        have w1 := wt_bd gw nw mk
        have w2 := wt_bd gw nw2 mk2
        have r1 := rep_int (i := eff W S (viewOf ms L s).1 (viewOf ms L s).2 to) (by omega)
        refine rd_callK ?_
        walk_at "rd"
        intro cc H14 z14 S14 hcc
        have S1e := S1d.trans S14
        walk_at "rd"
        refine ⟨rfl, tw, cc, r, k, W, S, _, to, _, rfl, hwb.same S1e, gw, Tup.of hcc, Tup.of (S1e _ _ h2b), v2, v0, v1, t0, t1, v3, fun H15 S15 => ?_⟩
        have S1f := S1e.trans S15
        walk_at "rd"
        refine rd_repr (.int _) r1.s r1.n r1.h r1.l ?_
        walk_at "rd"
        refine rd_repr (.int _) r1.s r1.n r1.h r1.l ?_
        refine rd_neS ?_
        walk_at "rd"
        refine iteF' (by simp) ?_
        walk_at "rd"
        refine ⟨tw, b5, l, k, W, S, _, ps, L, rfl, hwb.same S1f, gw, S1f _ _ hb5, S1f _ _ hpsb, pairs_same pLb S1f, nw2, mk2, fun H16 S16 => ?_⟩
        have S1g := S1f.trans S16
        walk_at "rd"
        refine iteF' rfl ?_
        walk_at "rd"
        refine ⟨tw, r, k, W, S, _, to, _, rfl, hwb.same S1g, gw, Tup.of (S1g _ _ h2b), v2, sortI_srt _, v0, v1, t0, t1, v3, fun H17 S17 => ?_⟩
        walk_at "rd"
        refine iteF' rfl ?_
        walk_at "rd"
        have S1h := S1g.trans S17
        exact ⟨b5, _, _, _, _, _, _, _, _, rfl, d11.same S1h, f0b.trans (Fix.same S1h), nb5.1, nb5.2, S1h _ _ hb5, nw2, mk2⟩
      · obtain ⟨am, ms, o7, o8, o9, o10, o11, o12, o13, rfl, d1, _⟩ := pv
        exact ⟨⟨_, _, _, _, _, _, _, _, _, _, _, _, rfl⟩, d1⟩
    · refine iteF' (decide_eq_false (by omega)) ?_
      walk_at "rd"
      refine ⟨by decide, by decide, ?_⟩
      exact for_range (lo := 0) (n := 0) (fun j σ H' => (∃ o2 o3 o4 o5 o6 o7 o8 o9 o10 o11 o12 o13, σ = [some (.ref a), some (.ref p), o2, o3, o4, o5, o6, o7, o8, o9, o10, o11, o12, o13]) ∧ Deal H' p q)
        ⟨⟨_, _, _, _, _, _, _, _, _, _, _, _, rfl⟩, d8⟩ (fun j σ H1 hj _ => absurd hj (Nat.not_lt_zero _)) (fun σ H1 pv => pv)
  · obtain ⟨_, d1⟩ := pv
    walk_at "rd"
    exact hQ _
end
end K65

namespace K65
open PySem PySem.Spec PyProof.Rows L2 L2H KX
/-! what the top has written, as one test -/
def ClsAt (K : PySem.W.Frag) (c : Addr) : Prop := ∃ nm q N bs bm sn sub ab col dd k0 k1 k2 k3 k5,
  K.lookup c = some (excClassObj nm q c N bs bm true sn sub ab col dd k0 k1 k2 k3 k5 "ValueError.__new__") ∧ PySem.HandSPX.refsVE bm = true
def IniAt (K : PySem.W.Frag) (qn : Str) (f : Addr) : Prop :=
  ∃ (oc : Value) (od : Option Addr) (doc pm : Value) (an : Option Addr) (cdv ct : Value) (osl : Array (Option Value)) (p1 p2 q1 q2 q3 q4 : Pos),
    K.lookup f = some ⟨oc, od, .func (PySem.W.fnOf "__init__" qn (PySem.ErrX.iA p1 p2) (PySem.ErrX.iB q1 q2 q3 q4) PySem.ErrX.iS .none .none doc pm an cdv ct), osl⟩ ∧
      PySem.W.codeIn K cdv qn = true
def okE (K : PySem.W.Frag) (c f cn : Addr) : Bool :=
  xfB K c && (decide (PySem.W.findIn K (.ref c) "at" = some none) &&
  (decide (PySem.W.findIn K (.ref c) "__setattr__" = some (some (.builtin "object.__setattr__"))) &&
  (decide (PySem.W.findIn K (.ref c) "__init__" = some (some (.ref f))) &&
  (decide (PySem.W.typeIn K (.ref f) = some (.type "function")) && (PySem.W.keepIn K (.ref c) &&
  (decide (PySem.W.typeIn K (.ref c) = some (.type "type")) && (decide (PySem.W.exmOne K (.ref c) (.ref c) = some true) &&
  (decide (PySem.W.findIn K (.ref c) "__class__" = some (some (.builtin "object.__class__"))) &&
  (decide (PySem.W.specialIn K (.builtin "object.__class__") "__get__" = some (some (.builtin "getset_descriptor.__get__"))) &&
  (decide (PySem.W.takesIn K (.builtin "object.__class__") = some true) && (decide (PySem.W.mroIn K c (.type "object") = some true) &&
  (decide (PySem.W.kitOne K (.ref c) (.type "ValueError") = some true) &&
   decide (PySem.W.exmOne K (.ref c) (.ref cn) = some true)))))))))))))
structure OkE (K : PySem.W.Frag) (c f cn : Addr) : Prop where
  xf : XfC K c
  no : PySem.W.findIn K (.ref c) "at" = some none
  sa : PySem.W.findIn K (.ref c) "__setattr__" = some (some (.builtin "object.__setattr__"))
  ini : PySem.W.findIn K (.ref c) "__init__" = some (some (.ref f))
  tf : PySem.W.typeIn K (.ref f) = some (.type "function")
  kc : PySem.W.keepIn K (.ref c) = true
  ty : PySem.W.typeIn K (.ref c) = some (.type "type")
  te : PySem.W.exmOne K (.ref c) (.ref c) = some true
  ha : PySem.W.findIn K (.ref c) "__class__" = some (some (.builtin "object.__class__"))
  hn : PySem.W.specialIn K (.builtin "object.__class__") "__get__" = some (some (.builtin "getset_descriptor.__get__"))
  ht : PySem.W.takesIn K (.builtin "object.__class__") = some true
  hm : PySem.W.mroIn K c (.type "object") = some true
  ve : PySem.W.kitOne K (.ref c) (.type "ValueError") = some true
  exm : PySem.W.exmOne K (.ref c) (.ref cn) = some true
theorem okE_ok {K : PySem.W.Frag} {c f cn : Addr} (h : okE K c f cn = true) : OkE K c f cn := by
  unfold okE at h
  simp only [Bool.and_eq_true, decide_eq_true_eq] at h
  obtain ⟨h1, h2, h3, h4, h5, h6, h7, h8, h9, h10, h11, h12, h13, h14⟩ := h
  exact ⟨xfB_ok h1, h2, h3, h4, h5, h6, h7, h8, h9, h10, h11, h12, h13, h14⟩
theorem err_of {K : PySem.W.Frag} {mg : Str → Option Value} {en qn : Str} {c f cn : Addr} (z : OkE K c f cn)
    (g : mg en = some (.ref c)) (hc : ClsAt K c) (hf : IniAt K qn f) : PySem.ErrX.ErrTxt K mg en qn c f :=
  ⟨g, hc, z.sa, z.xf.ga, z.xf.gg, z.no, z.ini, z.tf, z.kc, z.xf.exC, z.ty, z.xf.hdC, z.te, hf⟩
/-- a def of the top, or of a class, at f -/
def DefAt (K : PySem.W.Frag) (x q : Str) (st : Stmt) (f : Addr) : Prop :=
  ∃ (oc : Value) (od : Option Addr) (kV doc pm : Value) (an : Option Addr) (cdv ct : Value) (osl : Array (Option Value)),
    K.lookup f = some ⟨oc, od, .func (PySem.W.fnOf x q (defArgs st) (defBody st) (defScope st) .none kV doc pm an cdv ct), osl⟩ ∧
      PySem.W.codeIn K cdv q = true
theorem fun_of {K : PySem.W.Frag} {x q : Str} {st : Stmt} {f : Addr} (h : DefAt K x q st f) (k : PySem.W.keepIn K (.ref f) = true) :
    ∃ fd kV doc pm an cdv ct, fd = PySem.W.fnOf x q (defArgs st) (defBody st) (defScope st) .none kV doc pm an cdv ct ∧ Fun K x q st f fd := by
  obtain ⟨oc, od, kV, doc, pm, an, cdv, ct, osl, l, c⟩ := h
  exact ⟨_, kV, doc, pm, an, cdv, ct, rfl, fun_mk l c k⟩
/-- what is asked of a class with an own == -/
def okC (K : PySem.W.Frag) (c i e : Addr) (fs : List Str) : Bool :=
  PySem.W.plainGet K c Str.empty && (PySem.W.hasDictIn K c && (PySem.W.plainOver K c &&
  (decide (PySem.W.findIn K (.ref c) "__setattr__" = some (some (.builtin "object.__setattr__"))) &&
  (fs.all (fun f => decide (PySem.W.findIn K (.ref c) f = some none)) && (PySem.W.makesIn K c &&
  (decide (PySem.W.findIn K (.ref c) "__init__" = some (some (.ref i))) && (PySem.W.isFn K (.ref i) && (PySem.W.keepIn K (.ref c) &&
  (decide (PySem.W.findIn K (.ref c) "__class__" = some (some (.builtin "object.__class__"))) &&
  (decide (PySem.W.specialIn K (.builtin "object.__class__") "__get__" = some (some (.builtin "getset_descriptor.__get__"))) &&
  (decide (PySem.W.takesIn K (.builtin "object.__class__") = some true) && (decide (PySem.W.mroIn K c (.type "object") = some true) &&
  (decide (PySem.W.kitOne K (.ref c) (.ref c) = some true) &&
  (decide (PySem.W.findIn K (.ref c) "__eq__" = some (some (.ref e))) && (PySem.W.isFn K (.ref e) &&
  (decide (PySem.W.findIn K (.ref c) "__ne__" = some (some (.builtin "object.__ne__"))) &&
  (PySem.W.notFirst K c (.type "tuple") && decide (PySem.W.kitOne K (.type "tuple") (.ref c) = some false))))))))))))))))))
structure KCl (K : PySem.W.Frag) (c i e : Addr) (fs : List Str) : Prop where
  cls : Cls K c
  no : ∀ f ∈ fs, NoAttr K c f
  mks : Mk K c i
  isi : IsCls K c
  own : OwnC K c e
  nf : PySem.W.notFirst K c (.type "tuple") = true
  kt : PySem.W.kitOne K (.type "tuple") (.ref c) = some false
theorem okC_ok {K : PySem.W.Frag} {c i e : Addr} {fs : List Str} (h : okC K c i e fs = true) : KCl K c i e fs := by
  unfold okC at h
  simp only [Bool.and_eq_true, decide_eq_true_eq, List.all_eq_true] at h
  obtain ⟨h1, h2, h3, h4, h5, h6, h7, h8, h9, h10, h11, h12, h13, h14, h15, h16, h17, h18, h19⟩ := h
  have C : Cls K c := ⟨h1, h2, h3, h4⟩
  exact ⟨C, fun f hf => h5 f hf, ⟨h6, h7, h8, h9⟩, ⟨C, h10, h11, h12, h13, h14⟩, ⟨h15, h16, h17, h13⟩, h18, h19⟩
theorem all3 {α : Type} {P : α → Prop} {x y z : α} (a : P x) (b : P y) (c : P z) : ∀ p ∈ [x, y, z], P p := fun p hp => by
  simp only [List.mem_cons, List.not_mem_nil, or_false] at hp
  rcases hp with rfl | rfl | rfl <;> assumption
theorem all_mk {l : PySem.W.OpenLaw} {w : World} {K : PySem.W.Frag} {h : Heap} {mg : Str → Option Value} {fa : Addr} (X : K.In h)
    (G : h.Ns mainGlobals mg) (hfa : mg "law" = some (.ref fa))
    {f_is_integer f_is_number f_is_below f_is_sequence f_is_tuple_of f_is_mode f_are_neighbours f_made_view f_is_weighing f_are_rows f_is_even_table f_weight f_effect f_room f_checked_modes f_linked_sites f_can_link f__law_draw f__law_any f__law_of f__law_links f__law_network f__law_views f__law_number f__law_weighing f__law_weight f__law_spoilt f__law_kinds_right f__law_room f__law_network_right f__law_star_right f_law c_Network f_Network_init f_Network_eq f_Network_neighbours f_Network_view f_Network_site_views c_InvalidNetwork i_InvalidNetwork c_InvalidView i_InvalidView c_InvalidQuestion i_InvalidQuestion : Addr} {t_MOST_MODES t_MOST_NEIGHBOURS : Tok}
    (a_InvalidNetwork : PySem.W.nsIn K mainGlobals "InvalidNetwork" = some (some (.ref c_InvalidNetwork)))
    (i__InvalidNetwork : PySem.W.findIn K (.ref c_InvalidNetwork) "__init__" = some (some (.ref i_InvalidNetwork)))
    (ok_InvalidNetwork : okE K c_InvalidNetwork i_InvalidNetwork c_InvalidNetwork = true)
    (x_InvalidNetwork : ClsAt K c_InvalidNetwork)
    (y_InvalidNetwork : IniAt K "InvalidNetwork.__init__" i_InvalidNetwork)
    (a_InvalidView : PySem.W.nsIn K mainGlobals "InvalidView" = some (some (.ref c_InvalidView)))
    (i__InvalidView : PySem.W.findIn K (.ref c_InvalidView) "__init__" = some (some (.ref i_InvalidView)))
    (ok_InvalidView : okE K c_InvalidView i_InvalidView c_InvalidView = true)
    (x_InvalidView : ClsAt K c_InvalidView)
    (y_InvalidView : IniAt K "InvalidView.__init__" i_InvalidView)
    (a_InvalidQuestion : PySem.W.nsIn K mainGlobals "InvalidQuestion" = some (some (.ref c_InvalidQuestion)))
    (i__InvalidQuestion : PySem.W.findIn K (.ref c_InvalidQuestion) "__init__" = some (some (.ref i_InvalidQuestion)))
    (ok_InvalidQuestion : okE K c_InvalidQuestion i_InvalidQuestion c_InvalidQuestion = true)
    (x_InvalidQuestion : ClsAt K c_InvalidQuestion)
    (y_InvalidQuestion : IniAt K "InvalidQuestion.__init__" i_InvalidQuestion)
    (g_MOST_MODES : PySem.W.nsIn K mainGlobals "MOST_MODES" = some (some (.int 4 t_MOST_MODES)))
    (g_MOST_NEIGHBOURS : PySem.W.nsIn K mainGlobals "MOST_NEIGHBOURS" = some (some (.int 4 t_MOST_NEIGHBOURS)))
    (g_is_integer : PySem.W.nsIn K mainGlobals "is_integer" = some (some (.ref f_is_integer)))
    (e_is_integer : DefAt K "is_integer" "is_integer" s_is_integer f_is_integer)
    (k_is_integer : PySem.W.keepIn K (.ref f_is_integer) = true)
    (g_is_number : PySem.W.nsIn K mainGlobals "is_number" = some (some (.ref f_is_number)))
    (e_is_number : DefAt K "is_number" "is_number" s_is_number f_is_number)
    (k_is_number : PySem.W.keepIn K (.ref f_is_number) = true)
    (g_is_below : PySem.W.nsIn K mainGlobals "is_below" = some (some (.ref f_is_below)))
    (e_is_below : DefAt K "is_below" "is_below" s_is_below f_is_below)
    (k_is_below : PySem.W.keepIn K (.ref f_is_below) = true)
    (g_is_sequence : PySem.W.nsIn K mainGlobals "is_sequence" = some (some (.ref f_is_sequence)))
    (e_is_sequence : DefAt K "is_sequence" "is_sequence" s_is_sequence f_is_sequence)
    (k_is_sequence : PySem.W.keepIn K (.ref f_is_sequence) = true)
    (g_is_tuple_of : PySem.W.nsIn K mainGlobals "is_tuple_of" = some (some (.ref f_is_tuple_of)))
    (e_is_tuple_of : DefAt K "is_tuple_of" "is_tuple_of" s_is_tuple_of f_is_tuple_of)
    (k_is_tuple_of : PySem.W.keepIn K (.ref f_is_tuple_of) = true)
    (g_is_mode : PySem.W.nsIn K mainGlobals "is_mode" = some (some (.ref f_is_mode)))
    (e_is_mode : DefAt K "is_mode" "is_mode" s_is_mode f_is_mode)
    (k_is_mode : PySem.W.keepIn K (.ref f_is_mode) = true)
    (g_are_neighbours : PySem.W.nsIn K mainGlobals "are_neighbours" = some (some (.ref f_are_neighbours)))
    (e_are_neighbours : DefAt K "are_neighbours" "are_neighbours" s_are_neighbours f_are_neighbours)
    (k_are_neighbours : PySem.W.keepIn K (.ref f_are_neighbours) = true)
    (g_made_view : PySem.W.nsIn K mainGlobals "made_view" = some (some (.ref f_made_view)))
    (e_made_view : DefAt K "made_view" "made_view" s_made_view f_made_view)
    (k_made_view : PySem.W.keepIn K (.ref f_made_view) = true)
    (g_is_weighing : PySem.W.nsIn K mainGlobals "is_weighing" = some (some (.ref f_is_weighing)))
    (e_is_weighing : DefAt K "is_weighing" "is_weighing" s_is_weighing f_is_weighing)
    (k_is_weighing : PySem.W.keepIn K (.ref f_is_weighing) = true)
    (g_are_rows : PySem.W.nsIn K mainGlobals "are_rows" = some (some (.ref f_are_rows)))
    (e_are_rows : DefAt K "are_rows" "are_rows" s_are_rows f_are_rows)
    (k_are_rows : PySem.W.keepIn K (.ref f_are_rows) = true)
    (g_is_even_table : PySem.W.nsIn K mainGlobals "is_even_table" = some (some (.ref f_is_even_table)))
    (e_is_even_table : DefAt K "is_even_table" "is_even_table" s_is_even_table f_is_even_table)
    (k_is_even_table : PySem.W.keepIn K (.ref f_is_even_table) = true)
    (g_weight : PySem.W.nsIn K mainGlobals "weight" = some (some (.ref f_weight)))
    (e_weight : DefAt K "weight" "weight" s_weight f_weight)
    (k_weight : PySem.W.keepIn K (.ref f_weight) = true)
    (g_effect : PySem.W.nsIn K mainGlobals "effect" = some (some (.ref f_effect)))
    (e_effect : DefAt K "effect" "effect" s_effect f_effect)
    (k_effect : PySem.W.keepIn K (.ref f_effect) = true)
    (g_room : PySem.W.nsIn K mainGlobals "room" = some (some (.ref f_room)))
    (e_room : DefAt K "room" "room" s_room f_room)
    (k_room : PySem.W.keepIn K (.ref f_room) = true)
    (g_checked_modes : PySem.W.nsIn K mainGlobals "checked_modes" = some (some (.ref f_checked_modes)))
    (e_checked_modes : DefAt K "checked_modes" "checked_modes" s_checked_modes f_checked_modes)
    (k_checked_modes : PySem.W.keepIn K (.ref f_checked_modes) = true)
    (g_linked_sites : PySem.W.nsIn K mainGlobals "linked_sites" = some (some (.ref f_linked_sites)))
    (e_linked_sites : DefAt K "linked_sites" "linked_sites" s_linked_sites f_linked_sites)
    (k_linked_sites : PySem.W.keepIn K (.ref f_linked_sites) = true)
    (g_can_link : PySem.W.nsIn K mainGlobals "can_link" = some (some (.ref f_can_link)))
    (e_can_link : DefAt K "can_link" "can_link" s_can_link f_can_link)
    (k_can_link : PySem.W.keepIn K (.ref f_can_link) = true)
    (g__law_draw : PySem.W.nsIn K mainGlobals "_law_draw" = some (some (.ref f__law_draw)))
    (e__law_draw : DefAt K "_law_draw" "_law_draw" s__law_draw f__law_draw)
    (k__law_draw : PySem.W.keepIn K (.ref f__law_draw) = true)
    (g__law_any : PySem.W.nsIn K mainGlobals "_law_any" = some (some (.ref f__law_any)))
    (e__law_any : DefAt K "_law_any" "_law_any" s__law_any f__law_any)
    (k__law_any : PySem.W.keepIn K (.ref f__law_any) = true)
    (g__law_of : PySem.W.nsIn K mainGlobals "_law_of" = some (some (.ref f__law_of)))
    (e__law_of : DefAt K "_law_of" "_law_of" s__law_of f__law_of)
    (k__law_of : PySem.W.keepIn K (.ref f__law_of) = true)
    (g__law_links : PySem.W.nsIn K mainGlobals "_law_links" = some (some (.ref f__law_links)))
    (e__law_links : DefAt K "_law_links" "_law_links" s__law_links f__law_links)
    (k__law_links : PySem.W.keepIn K (.ref f__law_links) = true)
    (g__law_network : PySem.W.nsIn K mainGlobals "_law_network" = some (some (.ref f__law_network)))
    (e__law_network : DefAt K "_law_network" "_law_network" s__law_network f__law_network)
    (k__law_network : PySem.W.keepIn K (.ref f__law_network) = true)
    (g__law_views : PySem.W.nsIn K mainGlobals "_law_views" = some (some (.ref f__law_views)))
    (e__law_views : DefAt K "_law_views" "_law_views" s__law_views f__law_views)
    (k__law_views : PySem.W.keepIn K (.ref f__law_views) = true)
    (g__law_number : PySem.W.nsIn K mainGlobals "_law_number" = some (some (.ref f__law_number)))
    (e__law_number : DefAt K "_law_number" "_law_number" s__law_number f__law_number)
    (k__law_number : PySem.W.keepIn K (.ref f__law_number) = true)
    (g__law_weighing : PySem.W.nsIn K mainGlobals "_law_weighing" = some (some (.ref f__law_weighing)))
    (e__law_weighing : DefAt K "_law_weighing" "_law_weighing" s__law_weighing f__law_weighing)
    (k__law_weighing : PySem.W.keepIn K (.ref f__law_weighing) = true)
    (g__law_weight : PySem.W.nsIn K mainGlobals "_law_weight" = some (some (.ref f__law_weight)))
    (e__law_weight : DefAt K "_law_weight" "_law_weight" s__law_weight f__law_weight)
    (k__law_weight : PySem.W.keepIn K (.ref f__law_weight) = true)
    (g__law_spoilt : PySem.W.nsIn K mainGlobals "_law_spoilt" = some (some (.ref f__law_spoilt)))
    (e__law_spoilt : DefAt K "_law_spoilt" "_law_spoilt" s__law_spoilt f__law_spoilt)
    (k__law_spoilt : PySem.W.keepIn K (.ref f__law_spoilt) = true)
    (g__law_kinds_right : PySem.W.nsIn K mainGlobals "_law_kinds_right" = some (some (.ref f__law_kinds_right)))
    (e__law_kinds_right : DefAt K "_law_kinds_right" "_law_kinds_right" s__law_kinds_right f__law_kinds_right)
    (k__law_kinds_right : PySem.W.keepIn K (.ref f__law_kinds_right) = true)
    (g__law_room : PySem.W.nsIn K mainGlobals "_law_room" = some (some (.ref f__law_room)))
    (e__law_room : DefAt K "_law_room" "_law_room" s__law_room f__law_room)
    (k__law_room : PySem.W.keepIn K (.ref f__law_room) = true)
    (g__law_network_right : PySem.W.nsIn K mainGlobals "_law_network_right" = some (some (.ref f__law_network_right)))
    (e__law_network_right : DefAt K "_law_network_right" "_law_network_right" s__law_network_right f__law_network_right)
    (k__law_network_right : PySem.W.keepIn K (.ref f__law_network_right) = true)
    (g__law_star_right : PySem.W.nsIn K mainGlobals "_law_star_right" = some (some (.ref f__law_star_right)))
    (e__law_star_right : DefAt K "_law_star_right" "_law_star_right" s__law_star_right f__law_star_right)
    (k__law_star_right : PySem.W.keepIn K (.ref f__law_star_right) = true)
    (g_law : PySem.W.nsIn K mainGlobals "law" = some (some (.ref f_law)))
    (e_law : DefAt K "law" "law" s_law f_law)
    (k_law : PySem.W.keepIn K (.ref f_law) = true)
    (g_Network : PySem.W.nsIn K mainGlobals "Network" = some (some (.ref c_Network)))
    (j_Network_init : PySem.W.findIn K (.ref c_Network) "__init__" = some (some (.ref f_Network_init)))
    (j_Network_eq : PySem.W.findIn K (.ref c_Network) "__eq__" = some (some (.ref f_Network_eq)))
    (j_Network_neighbours : PySem.W.findIn K (.ref c_Network) "neighbours" = some (some (.ref f_Network_neighbours)))
    (n__Network_neighbours : PySem.W.isFn K (.ref f_Network_neighbours) = true)
    (j_Network_view : PySem.W.findIn K (.ref c_Network) "view" = some (some (.ref f_Network_view)))
    (n__Network_view : PySem.W.isFn K (.ref f_Network_view) = true)
    (j_Network_site_views : PySem.W.findIn K (.ref c_Network) "site_views" = some (some (.ref f_Network_site_views)))
    (n__Network_site_views : PySem.W.isFn K (.ref f_Network_site_views) = true)
    (okc_Network : okC K c_Network f_Network_init f_Network_eq ["modes", "_near", "links"] = true)
    (e_Network_init : DefAt K "__init__" "Network.__init__" s_Network_init f_Network_init)
    (k_Network_init : PySem.W.keepIn K (.ref f_Network_init) = true)
    (e_Network_eq : DefAt K "__eq__" "Network.__eq__" s_Network_eq f_Network_eq)
    (k_Network_eq : PySem.W.keepIn K (.ref f_Network_eq) = true)
    (e_Network_neighbours : DefAt K "neighbours" "Network.neighbours" s_Network_neighbours f_Network_neighbours)
    (k_Network_neighbours : PySem.W.keepIn K (.ref f_Network_neighbours) = true)
    (e_Network_view : DefAt K "view" "Network.view" s_Network_view f_Network_view)
    (k_Network_view : PySem.W.keepIn K (.ref f_Network_view) = true)
    (e_Network_site_views : DefAt K "site_views" "Network.site_views" s_Network_site_views f_Network_site_views)
    (k_Network_site_views : PySem.W.keepIn K (.ref f_Network_site_views) = true)
    (z_int : PySem.W.nsIn K mainGlobals "int" = some none)
    (z_bool : PySem.W.nsIn K mainGlobals "bool" = some none)
    (z_abs : PySem.W.nsIn K mainGlobals "abs" = some none)
    (z_len : PySem.W.nsIn K mainGlobals "len" = some none)
    (z_min : PySem.W.nsIn K mainGlobals "min" = some none)
    (z_max : PySem.W.nsIn K mainGlobals "max" = some none)
    (z_sorted : PySem.W.nsIn K mainGlobals "sorted" = some none)
    (z_tuple : PySem.W.nsIn K mainGlobals "tuple" = some none)
    (z_list : PySem.W.nsIn K mainGlobals "list" = some none)
    (z_range : PySem.W.nsIn K mainGlobals "range" = some none)
    (z_repr : PySem.W.nsIn K mainGlobals "repr" = some none)
    (z_isinstance : PySem.W.nsIn K mainGlobals "isinstance" = some none)
    (z_enumerate : PySem.W.nsIn K mainGlobals "enumerate" = some none)
    (z_all : PySem.W.nsIn K mainGlobals "all" = some none)
    (z_sum : PySem.W.nsIn K mainGlobals "sum" = some none)
    : ∃ fd : FuncData, (∀ (s : Shared) (u : Value), BindsTo s fd ⟨[u], []⟩ [("script", u)]) ∧
      ∀ base : Heap, K.In base → base.Ns mainGlobals mg → FnR l.prog w K mg base CX0 (CG 13) fa fd ["script"] (spLaw K) := by
  have e := hfa.symm.trans (PySem.W.mg_of X G g_law)
  cases e
  have OK_InvalidNetwork := okE_ok ok_InvalidNetwork
  have EE_InvalidNetwork : PySem.ErrX.ErrTxt K mg "InvalidNetwork" "InvalidNetwork.__init__" c_InvalidNetwork i_InvalidNetwork := err_of OK_InvalidNetwork (PySem.W.mg_of X G a_InvalidNetwork) x_InvalidNetwork y_InvalidNetwork
  have OK_InvalidView := okE_ok ok_InvalidView
  have EE_InvalidView : PySem.ErrX.ErrTxt K mg "InvalidView" "InvalidView.__init__" c_InvalidView i_InvalidView := err_of OK_InvalidView (PySem.W.mg_of X G a_InvalidView) x_InvalidView y_InvalidView
  have OK_InvalidQuestion := okE_ok ok_InvalidQuestion
  have EE_InvalidQuestion : PySem.ErrX.ErrTxt K mg "InvalidQuestion" "InvalidQuestion.__init__" c_InvalidQuestion i_InvalidQuestion := err_of OK_InvalidQuestion (PySem.W.mg_of X G a_InvalidQuestion) x_InvalidQuestion y_InvalidQuestion
  have KC_Network := okC_ok okc_Network
  obtain ⟨d_is_integer, _, _, _, _, _, _, _, F_is_integer⟩ := fun_of e_is_integer k_is_integer
  obtain ⟨d_is_number, _, _, _, _, _, _, _, F_is_number⟩ := fun_of e_is_number k_is_number
  obtain ⟨d_is_below, _, _, _, _, _, _, _, F_is_below⟩ := fun_of e_is_below k_is_below
  obtain ⟨d_is_sequence, _, _, _, _, _, _, _, F_is_sequence⟩ := fun_of e_is_sequence k_is_sequence
  obtain ⟨d_is_tuple_of, _, _, _, _, _, _, _, F_is_tuple_of⟩ := fun_of e_is_tuple_of k_is_tuple_of
  obtain ⟨d_is_mode, _, _, _, _, _, _, _, F_is_mode⟩ := fun_of e_is_mode k_is_mode
  obtain ⟨d_are_neighbours, _, _, _, _, _, _, _, F_are_neighbours⟩ := fun_of e_are_neighbours k_are_neighbours
  obtain ⟨d_made_view, _, _, _, _, _, _, _, F_made_view⟩ := fun_of e_made_view k_made_view
  obtain ⟨d_is_weighing, _, _, _, _, _, _, _, F_is_weighing⟩ := fun_of e_is_weighing k_is_weighing
  obtain ⟨d_are_rows, _, _, _, _, _, _, _, F_are_rows⟩ := fun_of e_are_rows k_are_rows
  obtain ⟨d_is_even_table, _, _, _, _, _, _, _, F_is_even_table⟩ := fun_of e_is_even_table k_is_even_table
  obtain ⟨d_weight, _, _, _, _, _, _, _, F_weight⟩ := fun_of e_weight k_weight
  obtain ⟨d_effect, _, _, _, _, _, _, _, F_effect⟩ := fun_of e_effect k_effect
  obtain ⟨d_room, _, _, _, _, _, _, _, F_room⟩ := fun_of e_room k_room
  obtain ⟨d_checked_modes, _, _, _, _, _, _, _, F_checked_modes⟩ := fun_of e_checked_modes k_checked_modes
  obtain ⟨d_linked_sites, _, _, _, _, _, _, _, F_linked_sites⟩ := fun_of e_linked_sites k_linked_sites
  obtain ⟨d_can_link, _, _, _, _, _, _, _, F_can_link⟩ := fun_of e_can_link k_can_link
  obtain ⟨d__law_draw, _, _, _, _, _, _, _, F__law_draw⟩ := fun_of e__law_draw k__law_draw
  obtain ⟨d__law_any, _, _, _, _, _, _, _, F__law_any⟩ := fun_of e__law_any k__law_any
  obtain ⟨d__law_of, _, _, _, _, _, _, _, F__law_of⟩ := fun_of e__law_of k__law_of
  obtain ⟨d__law_links, _, _, _, _, _, _, _, F__law_links⟩ := fun_of e__law_links k__law_links
  obtain ⟨d__law_network, _, _, _, _, _, _, _, F__law_network⟩ := fun_of e__law_network k__law_network
  obtain ⟨d__law_views, _, _, _, _, _, _, _, F__law_views⟩ := fun_of e__law_views k__law_views
  obtain ⟨d__law_number, _, _, _, _, _, _, _, F__law_number⟩ := fun_of e__law_number k__law_number
  obtain ⟨d__law_weighing, _, _, _, _, _, _, _, F__law_weighing⟩ := fun_of e__law_weighing k__law_weighing
  obtain ⟨d__law_weight, _, _, _, _, _, _, _, F__law_weight⟩ := fun_of e__law_weight k__law_weight
  obtain ⟨d__law_spoilt, _, _, _, _, _, _, _, F__law_spoilt⟩ := fun_of e__law_spoilt k__law_spoilt
  obtain ⟨d__law_kinds_right, _, _, _, _, _, _, _, F__law_kinds_right⟩ := fun_of e__law_kinds_right k__law_kinds_right
  obtain ⟨d__law_room, _, _, _, _, _, _, _, F__law_room⟩ := fun_of e__law_room k__law_room
  obtain ⟨d__law_network_right, _, _, _, _, _, _, _, F__law_network_right⟩ := fun_of e__law_network_right k__law_network_right
  obtain ⟨d__law_star_right, _, _, _, _, _, _, _, F__law_star_right⟩ := fun_of e__law_star_right k__law_star_right
  obtain ⟨d_law, u1, u2, u3, u4, u5, u6, eu, F_law⟩ := fun_of e_law k_law
  obtain ⟨d_Network_init, _, _, _, _, _, _, _, F_Network_init⟩ := fun_of e_Network_init k_Network_init
  obtain ⟨d_Network_eq, _, _, _, _, _, _, _, F_Network_eq⟩ := fun_of e_Network_eq k_Network_eq
  obtain ⟨d_Network_neighbours, _, _, _, _, _, _, _, F_Network_neighbours⟩ := fun_of e_Network_neighbours k_Network_neighbours
  obtain ⟨d_Network_view, _, _, _, _, _, _, _, F_Network_view⟩ := fun_of e_Network_view k_Network_view
  obtain ⟨d_Network_site_views, _, _, _, _, _, _, _, F_Network_site_views⟩ := fun_of e_Network_site_views k_Network_site_views
  let T : TX K mg := {
    f_is_integer := f_is_integer, d_is_integer := d_is_integer, F_is_integer := F_is_integer, m_is_integer := PySem.W.mg_of X G g_is_integer,
    f_is_number := f_is_number, d_is_number := d_is_number, F_is_number := F_is_number, m_is_number := PySem.W.mg_of X G g_is_number,
    f_is_below := f_is_below, d_is_below := d_is_below, F_is_below := F_is_below, m_is_below := PySem.W.mg_of X G g_is_below,
    f_is_sequence := f_is_sequence, d_is_sequence := d_is_sequence, F_is_sequence := F_is_sequence, m_is_sequence := PySem.W.mg_of X G g_is_sequence,
    f_is_tuple_of := f_is_tuple_of, d_is_tuple_of := d_is_tuple_of, F_is_tuple_of := F_is_tuple_of, m_is_tuple_of := PySem.W.mg_of X G g_is_tuple_of,
    f_is_mode := f_is_mode, d_is_mode := d_is_mode, F_is_mode := F_is_mode, m_is_mode := PySem.W.mg_of X G g_is_mode,
    f_are_neighbours := f_are_neighbours, d_are_neighbours := d_are_neighbours, F_are_neighbours := F_are_neighbours, m_are_neighbours := PySem.W.mg_of X G g_are_neighbours,
    f_made_view := f_made_view, d_made_view := d_made_view, F_made_view := F_made_view, m_made_view := PySem.W.mg_of X G g_made_view,
    f_is_weighing := f_is_weighing, d_is_weighing := d_is_weighing, F_is_weighing := F_is_weighing, m_is_weighing := PySem.W.mg_of X G g_is_weighing,
    f_are_rows := f_are_rows, d_are_rows := d_are_rows, F_are_rows := F_are_rows, m_are_rows := PySem.W.mg_of X G g_are_rows,
    f_is_even_table := f_is_even_table, d_is_even_table := d_is_even_table, F_is_even_table := F_is_even_table, m_is_even_table := PySem.W.mg_of X G g_is_even_table,
    f_weight := f_weight, d_weight := d_weight, F_weight := F_weight, m_weight := PySem.W.mg_of X G g_weight,
    f_effect := f_effect, d_effect := d_effect, F_effect := F_effect, m_effect := PySem.W.mg_of X G g_effect,
    f_room := f_room, d_room := d_room, F_room := F_room, m_room := PySem.W.mg_of X G g_room,
    f_checked_modes := f_checked_modes, d_checked_modes := d_checked_modes, F_checked_modes := F_checked_modes, m_checked_modes := PySem.W.mg_of X G g_checked_modes,
    f_linked_sites := f_linked_sites, d_linked_sites := d_linked_sites, F_linked_sites := F_linked_sites, m_linked_sites := PySem.W.mg_of X G g_linked_sites,
    f_can_link := f_can_link, d_can_link := d_can_link, F_can_link := F_can_link, m_can_link := PySem.W.mg_of X G g_can_link,
    f__law_draw := f__law_draw, d__law_draw := d__law_draw, F__law_draw := F__law_draw, m__law_draw := PySem.W.mg_of X G g__law_draw,
    f__law_any := f__law_any, d__law_any := d__law_any, F__law_any := F__law_any, m__law_any := PySem.W.mg_of X G g__law_any,
    f__law_of := f__law_of, d__law_of := d__law_of, F__law_of := F__law_of, m__law_of := PySem.W.mg_of X G g__law_of,
    f__law_links := f__law_links, d__law_links := d__law_links, F__law_links := F__law_links, m__law_links := PySem.W.mg_of X G g__law_links,
    f__law_network := f__law_network, d__law_network := d__law_network, F__law_network := F__law_network, m__law_network := PySem.W.mg_of X G g__law_network,
    f__law_views := f__law_views, d__law_views := d__law_views, F__law_views := F__law_views, m__law_views := PySem.W.mg_of X G g__law_views,
    f__law_number := f__law_number, d__law_number := d__law_number, F__law_number := F__law_number, m__law_number := PySem.W.mg_of X G g__law_number,
    f__law_weighing := f__law_weighing, d__law_weighing := d__law_weighing, F__law_weighing := F__law_weighing, m__law_weighing := PySem.W.mg_of X G g__law_weighing,
    f__law_weight := f__law_weight, d__law_weight := d__law_weight, F__law_weight := F__law_weight, m__law_weight := PySem.W.mg_of X G g__law_weight,
    f__law_spoilt := f__law_spoilt, d__law_spoilt := d__law_spoilt, F__law_spoilt := F__law_spoilt, m__law_spoilt := PySem.W.mg_of X G g__law_spoilt,
    f__law_kinds_right := f__law_kinds_right, d__law_kinds_right := d__law_kinds_right, F__law_kinds_right := F__law_kinds_right, m__law_kinds_right := PySem.W.mg_of X G g__law_kinds_right,
    f__law_room := f__law_room, d__law_room := d__law_room, F__law_room := F__law_room, m__law_room := PySem.W.mg_of X G g__law_room,
    f__law_network_right := f__law_network_right, d__law_network_right := d__law_network_right, F__law_network_right := F__law_network_right, m__law_network_right := PySem.W.mg_of X G g__law_network_right,
    f__law_star_right := f__law_star_right, d__law_star_right := d__law_star_right, F__law_star_right := F__law_star_right, m__law_star_right := PySem.W.mg_of X G g__law_star_right,
    f_law := fa, d_law := d_law, F_law := F_law, m_law := PySem.W.mg_of X G g_law,
    n_int := PySem.W.mg_none_of X G z_int,
    n_bool := PySem.W.mg_none_of X G z_bool,
    n_abs := PySem.W.mg_none_of X G z_abs,
    n_len := PySem.W.mg_none_of X G z_len,
    n_min := PySem.W.mg_none_of X G z_min,
    n_max := PySem.W.mg_none_of X G z_max,
    n_sorted := PySem.W.mg_none_of X G z_sorted,
    n_tuple := PySem.W.mg_none_of X G z_tuple,
    n_list := PySem.W.mg_none_of X G z_list,
    n_range := PySem.W.mg_none_of X G z_range,
    n_repr := PySem.W.mg_none_of X G z_repr,
    n_isinstance := PySem.W.mg_none_of X G z_isinstance,
    n_enumerate := PySem.W.mg_none_of X G z_enumerate,
    n_all := PySem.W.mg_none_of X G z_all,
    n_sum := PySem.W.mg_none_of X G z_sum,
    t_MOST_MODES := t_MOST_MODES, m_MOST_MODES := PySem.W.mg_of X G g_MOST_MODES,
    t_MOST_NEIGHBOURS := t_MOST_NEIGHBOURS, m_MOST_NEIGHBOURS := PySem.W.mg_of X G g_MOST_NEIGHBOURS,
    c_InvalidNetwork := c_InvalidNetwork, i_InvalidNetwork := i_InvalidNetwork, E_InvalidNetwork := EE_InvalidNetwork,
    c_InvalidView := c_InvalidView, i_InvalidView := i_InvalidView, E_InvalidView := EE_InvalidView,
    c_InvalidQuestion := c_InvalidQuestion, i_InvalidQuestion := i_InvalidQuestion, E_InvalidQuestion := EE_InvalidQuestion,
    c_Network := c_Network, m_Network := PySem.W.mg_of X G g_Network, C_Network := KC_Network.cls,
    A_Network_modes := KC_Network.no "modes" (by decide),
    A_Network__near := KC_Network.no "_near" (by decide),
    A_Network_links := KC_Network.no "links" (by decide),
    f_Network_init := f_Network_init, d_Network_init := d_Network_init, F_Network_init := F_Network_init,
    f_Network_eq := f_Network_eq, d_Network_eq := d_Network_eq, F_Network_eq := F_Network_eq,
    f_Network_neighbours := f_Network_neighbours, d_Network_neighbours := d_Network_neighbours, F_Network_neighbours := F_Network_neighbours,
    H_Network_neighbours := ⟨j_Network_neighbours, n__Network_neighbours, k_Network_neighbours⟩,
    f_Network_view := f_Network_view, d_Network_view := d_Network_view, F_Network_view := F_Network_view,
    H_Network_view := ⟨j_Network_view, n__Network_view, k_Network_view⟩,
    f_Network_site_views := f_Network_site_views, d_Network_site_views := d_Network_site_views, F_Network_site_views := F_Network_site_views,
    H_Network_site_views := ⟨j_Network_site_views, n__Network_site_views, k_Network_site_views⟩,
    M_Network := KC_Network.mks, I_Network := KC_Network.isi, O_Network := KC_Network.own }
  refine ⟨d_law, fun s v => by rw [eu]; exact .of_eq rfl, fun base _ _ => ?_⟩
  exact G_law (P := l.prog) (w := w) (base := base) T 
end K65

open PySem PySem.W PyProof.Rows
set_option maxRecDepth 100000 in
set_option maxHeartbeats 0 in
theorem PySem.Challenge.cw_handalong_k65_weights_and_what_changes_a_holds : PySem.Challenge.rw_handalong_k65_weights_and_what_changes_a.Holds := by
  w_on; o_law; k_head; (case hw => w_witness2)
  k_fill
  refine KX.walk_ofG (l := PySem.Challenge.rw_handalong_k65_weights_and_what_changes_a) (n := 63) (k := 13) (x := "script") (CX := L2.CX0) (sp := K65.spLaw)
    rfl (by decide) rfl ⟨rfl, by decide, by decide⟩ (fun w h Y => PySem.W.kIn_of Y) ?F (fun _ H a ns hl _ hS => ⟨a, ns, rfl, hS, fun _ => rfl⟩) fun _ _ _ _ z => z
  case F =>
    intro w mg fa h Y G hmg
    refine' K65.all_mk Y G hmg ?a_InvalidNetwork ?i__InvalidNetwork ?ok_InvalidNetwork ?x_InvalidNetwork ?y_InvalidNetwork ?a_InvalidView ?i__InvalidView ?ok_InvalidView ?x_InvalidView ?y_InvalidView ?a_InvalidQuestion ?i__InvalidQuestion ?ok_InvalidQuestion ?x_InvalidQuestion ?y_InvalidQuestion ?g_MOST_MODES ?g_MOST_NEIGHBOURS ?g_is_integer ?e_is_integer ?k_is_integer ?g_is_number ?e_is_number ?k_is_number ?g_is_below ?e_is_below ?k_is_below ?g_is_sequence ?e_is_sequence ?k_is_sequence ?g_is_tuple_of ?e_is_tuple_of ?k_is_tuple_of ?g_is_mode ?e_is_mode ?k_is_mode ?g_are_neighbours ?e_are_neighbours ?k_are_neighbours ?g_made_view ?e_made_view ?k_made_view ?g_is_weighing ?e_is_weighing ?k_is_weighing ?g_are_rows ?e_are_rows ?k_are_rows ?g_is_even_table ?e_is_even_table ?k_is_even_table ?g_weight ?e_weight ?k_weight ?g_effect ?e_effect ?k_effect ?g_room ?e_room ?k_room ?g_checked_modes ?e_checked_modes ?k_checked_modes ?g_linked_sites ?e_linked_sites ?k_linked_sites ?g_can_link ?e_can_link ?k_can_link ?g__law_draw ?e__law_draw ?k__law_draw ?g__law_any ?e__law_any ?k__law_any ?g__law_of ?e__law_of ?k__law_of ?g__law_links ?e__law_links ?k__law_links ?g__law_network ?e__law_network ?k__law_network ?g__law_views ?e__law_views ?k__law_views ?g__law_number ?e__law_number ?k__law_number ?g__law_weighing ?e__law_weighing ?k__law_weighing ?g__law_weight ?e__law_weight ?k__law_weight ?g__law_spoilt ?e__law_spoilt ?k__law_spoilt ?g__law_kinds_right ?e__law_kinds_right ?k__law_kinds_right ?g__law_room ?e__law_room ?k__law_room ?g__law_network_right ?e__law_network_right ?k__law_network_right ?g__law_star_right ?e__law_star_right ?k__law_star_right ?g_law ?e_law ?k_law ?g_Network ?j_Network_init ?j_Network_eq ?j_Network_neighbours ?n__Network_neighbours ?j_Network_view ?n__Network_view ?j_Network_site_views ?n__Network_site_views ?okc_Network ?e_Network_init ?k_Network_init ?e_Network_eq ?k_Network_eq ?e_Network_neighbours ?k_Network_neighbours ?e_Network_view ?k_Network_view ?e_Network_site_views ?k_Network_site_views ?z_int ?z_bool ?z_abs ?z_len ?z_min ?z_max ?z_sorted ?z_tuple ?z_list ?z_range ?z_repr ?z_isinstance ?z_enumerate ?z_all ?z_sum
    (case a_InvalidNetwork => k_is)
    (case i__InvalidNetwork => k_is)
    (case ok_InvalidNetwork => kernel_rfl)
    (case x_InvalidNetwork => (refine' ⟨_, _, _, _, _, _, _, _, _, _, _, _, _, _, _, ?h1, ?h2⟩; (case h1 => rfl); (case h2 => decide +kernel)))
    (case y_InvalidNetwork => (refine' ⟨_, _, _, _, _, _, _, _, _, _, _, _, _, _, ?h1, ?h2⟩; (case h1 => rfl); (case h2 => k_is)))
    (case a_InvalidView => k_is)
    (case i__InvalidView => k_is)
    (case ok_InvalidView => kernel_rfl)
    (case x_InvalidView => (refine' ⟨_, _, _, _, _, _, _, _, _, _, _, _, _, _, _, ?h1, ?h2⟩; (case h1 => rfl); (case h2 => decide +kernel)))
    (case y_InvalidView => (refine' ⟨_, _, _, _, _, _, _, _, _, _, _, _, _, _, ?h1, ?h2⟩; (case h1 => rfl); (case h2 => k_is)))
    (case a_InvalidQuestion => k_is)
    (case i__InvalidQuestion => k_is)
    (case ok_InvalidQuestion => kernel_rfl)
    (case x_InvalidQuestion => (refine' ⟨_, _, _, _, _, _, _, _, _, _, _, _, _, _, _, ?h1, ?h2⟩; (case h1 => rfl); (case h2 => decide +kernel)))
    (case y_InvalidQuestion => (refine' ⟨_, _, _, _, _, _, _, _, _, _, _, _, _, _, ?h1, ?h2⟩; (case h1 => rfl); (case h2 => k_is)))
    (case g_MOST_MODES => k_is)
    (case g_MOST_NEIGHBOURS => k_is)
    (case g_is_integer => k_is)
    (case e_is_integer => (refine' ⟨_, _, _, _, _, _, _, _, _, ?h1, ?h2⟩; (case h1 => rfl); (case h2 => k_is)))
    (case k_is_integer => k_is)
    (case g_is_number => k_is)
    (case e_is_number => (refine' ⟨_, _, _, _, _, _, _, _, _, ?h1, ?h2⟩; (case h1 => rfl); (case h2 => k_is)))
    (case k_is_number => k_is)
    (case g_is_below => k_is)
    (case e_is_below => (refine' ⟨_, _, _, _, _, _, _, _, _, ?h1, ?h2⟩; (case h1 => rfl); (case h2 => k_is)))
    (case k_is_below => k_is)
    (case g_is_sequence => k_is)
    (case e_is_sequence => (refine' ⟨_, _, _, _, _, _, _, _, _, ?h1, ?h2⟩; (case h1 => rfl); (case h2 => k_is)))
    (case k_is_sequence => k_is)
    (case g_is_tuple_of => k_is)
    (case e_is_tuple_of => (refine' ⟨_, _, _, _, _, _, _, _, _, ?h1, ?h2⟩; (case h1 => rfl); (case h2 => k_is)))
    (case k_is_tuple_of => k_is)
    (case g_is_mode => k_is)
    (case e_is_mode => (refine' ⟨_, _, _, _, _, _, _, _, _, ?h1, ?h2⟩; (case h1 => rfl); (case h2 => k_is)))
    (case k_is_mode => k_is)
    (case g_are_neighbours => k_is)
    (case e_are_neighbours => (refine' ⟨_, _, _, _, _, _, _, _, _, ?h1, ?h2⟩; (case h1 => rfl); (case h2 => k_is)))
    (case k_are_neighbours => k_is)
    (case g_made_view => k_is)
    (case e_made_view => (refine' ⟨_, _, _, _, _, _, _, _, _, ?h1, ?h2⟩; (case h1 => rfl); (case h2 => k_is)))
    (case k_made_view => k_is)
    (case g_is_weighing => k_is)
    (case e_is_weighing => (refine' ⟨_, _, _, _, _, _, _, _, _, ?h1, ?h2⟩; (case h1 => rfl); (case h2 => k_is)))
    (case k_is_weighing => k_is)
    (case g_are_rows => k_is)
    (case e_are_rows => (refine' ⟨_, _, _, _, _, _, _, _, _, ?h1, ?h2⟩; (case h1 => rfl); (case h2 => k_is)))
    (case k_are_rows => k_is)
    (case g_is_even_table => k_is)
    (case e_is_even_table => (refine' ⟨_, _, _, _, _, _, _, _, _, ?h1, ?h2⟩; (case h1 => rfl); (case h2 => k_is)))
    (case k_is_even_table => k_is)
    (case g_weight => k_is)
    (case e_weight => (refine' ⟨_, _, _, _, _, _, _, _, _, ?h1, ?h2⟩; (case h1 => rfl); (case h2 => k_is)))
    (case k_weight => k_is)
    (case g_effect => k_is)
    (case e_effect => (refine' ⟨_, _, _, _, _, _, _, _, _, ?h1, ?h2⟩; (case h1 => rfl); (case h2 => k_is)))
    (case k_effect => k_is)
    (case g_room => k_is)
    (case e_room => (refine' ⟨_, _, _, _, _, _, _, _, _, ?h1, ?h2⟩; (case h1 => rfl); (case h2 => k_is)))
    (case k_room => k_is)
    (case g_checked_modes => k_is)
    (case e_checked_modes => (refine' ⟨_, _, _, _, _, _, _, _, _, ?h1, ?h2⟩; (case h1 => rfl); (case h2 => k_is)))
    (case k_checked_modes => k_is)
    (case g_linked_sites => k_is)
    (case e_linked_sites => (refine' ⟨_, _, _, _, _, _, _, _, _, ?h1, ?h2⟩; (case h1 => rfl); (case h2 => k_is)))
    (case k_linked_sites => k_is)
    (case g_can_link => k_is)
    (case e_can_link => (refine' ⟨_, _, _, _, _, _, _, _, _, ?h1, ?h2⟩; (case h1 => rfl); (case h2 => k_is)))
    (case k_can_link => k_is)
    (case g__law_draw => k_is)
    (case e__law_draw => (refine' ⟨_, _, _, _, _, _, _, _, _, ?h1, ?h2⟩; (case h1 => rfl); (case h2 => k_is)))
    (case k__law_draw => k_is)
    (case g__law_any => k_is)
    (case e__law_any => (refine' ⟨_, _, _, _, _, _, _, _, _, ?h1, ?h2⟩; (case h1 => rfl); (case h2 => k_is)))
    (case k__law_any => k_is)
    (case g__law_of => k_is)
    (case e__law_of => (refine' ⟨_, _, _, _, _, _, _, _, _, ?h1, ?h2⟩; (case h1 => rfl); (case h2 => k_is)))
    (case k__law_of => k_is)
    (case g__law_links => k_is)
    (case e__law_links => (refine' ⟨_, _, _, _, _, _, _, _, _, ?h1, ?h2⟩; (case h1 => rfl); (case h2 => k_is)))
    (case k__law_links => k_is)
    (case g__law_network => k_is)
    (case e__law_network => (refine' ⟨_, _, _, _, _, _, _, _, _, ?h1, ?h2⟩; (case h1 => rfl); (case h2 => k_is)))
    (case k__law_network => k_is)
    (case g__law_views => k_is)
    (case e__law_views => (refine' ⟨_, _, _, _, _, _, _, _, _, ?h1, ?h2⟩; (case h1 => rfl); (case h2 => k_is)))
    (case k__law_views => k_is)
    (case g__law_number => k_is)
    (case e__law_number => (refine' ⟨_, _, _, _, _, _, _, _, _, ?h1, ?h2⟩; (case h1 => rfl); (case h2 => k_is)))
    (case k__law_number => k_is)
    (case g__law_weighing => k_is)
    (case e__law_weighing => (refine' ⟨_, _, _, _, _, _, _, _, _, ?h1, ?h2⟩; (case h1 => rfl); (case h2 => k_is)))
    (case k__law_weighing => k_is)
    (case g__law_weight => k_is)
    (case e__law_weight => (refine' ⟨_, _, _, _, _, _, _, _, _, ?h1, ?h2⟩; (case h1 => rfl); (case h2 => k_is)))
    (case k__law_weight => k_is)
    (case g__law_spoilt => k_is)
    (case e__law_spoilt => (refine' ⟨_, _, _, _, _, _, _, _, _, ?h1, ?h2⟩; (case h1 => rfl); (case h2 => k_is)))
    (case k__law_spoilt => k_is)
    (case g__law_kinds_right => k_is)
    (case e__law_kinds_right => (refine' ⟨_, _, _, _, _, _, _, _, _, ?h1, ?h2⟩; (case h1 => rfl); (case h2 => k_is)))
    (case k__law_kinds_right => k_is)
    (case g__law_room => k_is)
    (case e__law_room => (refine' ⟨_, _, _, _, _, _, _, _, _, ?h1, ?h2⟩; (case h1 => rfl); (case h2 => k_is)))
    (case k__law_room => k_is)
    (case g__law_network_right => k_is)
    (case e__law_network_right => (refine' ⟨_, _, _, _, _, _, _, _, _, ?h1, ?h2⟩; (case h1 => rfl); (case h2 => k_is)))
    (case k__law_network_right => k_is)
    (case g__law_star_right => k_is)
    (case e__law_star_right => (refine' ⟨_, _, _, _, _, _, _, _, _, ?h1, ?h2⟩; (case h1 => rfl); (case h2 => k_is)))
    (case k__law_star_right => k_is)
    (case g_law => k_is)
    (case e_law => (refine' ⟨_, _, _, _, _, _, _, _, _, ?h1, ?h2⟩; (case h1 => rfl); (case h2 => k_is)))
    (case k_law => k_is)
    (case g_Network => k_is)
    (case j_Network_init => k_is)
    (case j_Network_eq => k_is)
    (case j_Network_neighbours => k_is)
    (case n__Network_neighbours => k_is)
    (case j_Network_view => k_is)
    (case n__Network_view => k_is)
    (case j_Network_site_views => k_is)
    (case n__Network_site_views => k_is)
    (case okc_Network => kernel_rfl)
    (case e_Network_init => (refine' ⟨_, _, _, _, _, _, _, _, _, ?h1, ?h2⟩; (case h1 => rfl); (case h2 => k_is)))
    (case k_Network_init => k_is)
    (case e_Network_eq => (refine' ⟨_, _, _, _, _, _, _, _, _, ?h1, ?h2⟩; (case h1 => rfl); (case h2 => k_is)))
    (case k_Network_eq => k_is)
    (case e_Network_neighbours => (refine' ⟨_, _, _, _, _, _, _, _, _, ?h1, ?h2⟩; (case h1 => rfl); (case h2 => k_is)))
    (case k_Network_neighbours => k_is)
    (case e_Network_view => (refine' ⟨_, _, _, _, _, _, _, _, _, ?h1, ?h2⟩; (case h1 => rfl); (case h2 => k_is)))
    (case k_Network_view => k_is)
    (case e_Network_site_views => (refine' ⟨_, _, _, _, _, _, _, _, _, ?h1, ?h2⟩; (case h1 => rfl); (case h2 => k_is)))
    (case k_Network_site_views => k_is)
    (case z_int => k_is)
    (case z_bool => k_is)
    (case z_abs => k_is)
    (case z_len => k_is)
    (case z_min => k_is)
    (case z_max => k_is)
    (case z_sorted => k_is)
    (case z_tuple => k_is)
    (case z_list => k_is)
    (case z_range => k_is)
    (case z_repr => k_is)
    (case z_isinstance => k_is)
    (case z_enumerate => k_is)
    (case z_all => k_is)
    (case z_sum => k_is)
