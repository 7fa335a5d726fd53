import PyProof.Rows.All
import Wide.All
import OpenK.AllK
import Wide.FinOn
import HandS.ForExc
import HandS.HotCalls
import HandS.ExcField
import HandS.ExcIs
import HandS.RaiseMore
import HandS.Comp
import PyProof.ReprRoads
import KE.KExcIs
import HandS.IsInst
import HandS.Defaults
import HandS.Gcd
import HandS.Wide
import HandS.Style
import HandS.Flow
import HandS.Lambda
import HandS.TupLe
import HandS.TupAny
import HandS.SetFor
import HandS.Conv
import HandS.SlotsOwn
import PyProof.InstNe
import KE.GoesEnum
import HandS.Iter
import HandS.Walk
import HandS.Deep
import HandS.Sort
import HandS.SortRule
import HandS.MakeKw
import HandS.MakeKwOnly
import HandS.TryOnly
import KE.SortData
import KE.DatumOrd
import HandS.TupMul
import HandS.SortKw
import HandS.ListItems
import HandS.DictTup
import KE.KTupSum
import HandS.Small
import HandS.TryMany
import HandS.Zip
import KE.GoesZip
import KE.GoesMore
import PySem.Challenge.RW_handalong_k69_weights_that_gains_follow
import HandS.CallLocal
import KE.KExcTry
import KE.KExcStr
set_option Elab.async false
set_option linter.all false
set_option maxRecDepth 100000
set_option maxHeartbeats 4000000
namespace KX
open PySem PySem.Spec PyProof.Rows L2
/-! repr of data -/
def rRepr (K : PySem.W.Frag) : List V → Hp → VK → Prop := fun xs H Q =>
  ∃ x d, xs = [x] ∧ Dp K H x d ∧ d.showable = true ∧ d.hasDict = false ∧ d.depth ≤ 64 ∧
    d.shown.length ≤ sizeLine ∧ Q (.str d.shown) H
theorem cr_repr {X : Cx} (hg : X.A.guards = some []) (hu : X.A.units + 66 < cLine) :
    CallR X (.builtin "repr") (rRepr X.K) := by
  intro pins s σ H xs us Q I r h
  obtain ⟨x, d, rfl, hd, hs, hn, h64, hz, q⟩ := h
  cases r with
  | cons rx rn =>
    cases rn
    rename_i u
    obtain ⟨as, rd⟩ := Dp.reads I d x u hd rx
    have hsm : d.hasDict = true → sysModules ∉ as := fun z => by rw [hn] at z; cases z
    have out : ∀ (h' : Heap) (tk : Nat) (t : Tok), (∀ b o, s.heap.get? b = some o → h'.get? b = some o) →
        EP X pins σ Q (.str d.shown t) { s with heap := h', toks := tk } := fun h' tk t k =>
      ⟨.str d.shown, H, I.kept k, ⟨t, rfl⟩, q⟩
    cases rd with
    | none => exact P.repr_of_none (out s.heap _ _ fun _ _ e => e)
    | bool b => exact P.repr_of_bool (by simpa only [PyData.shown] using out s.heap (s.toks + 1) s.toks fun _ _ e => e)
    | int i t =>
      exact P.repr_of_int (by simpa [PyData.showable] using hs)
        (by simpa only [PyData.shown] using out s.heap (s.toks + 1) s.toks fun _ _ e => e)
    | str z t =>
      exact P.repr_of_str (by simpa only [PyData.shown] using out s.heap (s.toks + 1) s.toks fun _ _ e => e)
        (by simpa only [PyData.shown] using hz)
    | list h1 h2 h3 h4 =>
      exact repr_of_reads' (.list h1 h2 h3 h4) hs hsm hg (by omega) (fun _ _ e => e)
        (fun h' u tk k => out h' tk u k) hz
    | tuple h1 h2 h3 h4 =>
      exact repr_of_reads' (.tuple h1 h2 h3 h4) hs hsm hg (by omega) (fun _ _ e => e)
        (fun h' u tk k => out h' tk u k) hz
    | dict h1 h2 h3 h4 h5 => cases hn
end KX

namespace PySem
namespace ErrX
open PySem.W PySem.Calls PyProof.Rows PySem.HandSPX
/-! ### the text of __init__ -/
def iA (p1 p2 : Pos) : Arguments := { posonlyargs := [], args := [{ arg := "self", annotation := none, pos := p1 }, { arg := "at", annotation := none, pos := p2 }], vararg := none, kwonlyargs := [], kw_defaults := [], kwarg := none, defaults := [] }
def iB (q1 q2 q3 q4 : Pos) : List Stmt := [.Assign [.Attribute (.Name "self" q1) "at" q2] (.Name "at" q3) q4]
def iS : Scope := { kind := .function, names := [(PySem.Str.ofString "self", .local), (PySem.Str.ofString "at", .local)], isGenerator := false, isCoroutine := false, more := [] }
/-- what the written part says of Low, at C, and of its __init__, at fI -/
structure ErrTxt (K : Frag) (mg : Str → Option Value) (en qn : Str) (C fI : Addr) : Prop where
  gC : mg en = some (.ref C)
  cls : ∃ nm q N bs bm sn sub ab col dd k0 k1 k2 k3 k5, K.lookup C = some (excClassObj nm q C N bs bm true sn sub ab col dd k0 k1 k2 k3 k5 "ValueError.__new__") ∧ refsVE bm = true
  sa : findIn K (.ref C) "__setattr__" = some (some (.builtin "object.__setattr__"))
  ga : findIn K (.ref C) "__getattribute__" = some (some (.builtin "BaseException.__getattribute__"))
  gg : findIn K (.ref C) "__getattr__" = some none
  noN : findIn K (.ref C) "at" = some none
  iC : findIn K (.ref C) "__init__" = some (some (.ref fI))
  tC : typeIn K (.ref fI) = some (.type "function")
  kC : keepIn K (.ref C) = true
  exC : subIn K (.ref C) (.type "BaseException") = some true
  tyC : typeIn K (.ref C) = some (.type "type")
  hdC : hasDictIn K C = true
  te : exmOne K (.ref C) (.ref C) = some true
  fn : ∃ (oc : Value) (od : Option Addr) (doc pm : Value) (an : Option Addr) (cdv ct : Value) (osl : Array (Option Value)) (p1 p2 q1 q2 q3 q4 : Pos),
    K.lookup fI = some ⟨oc, od, .func (fnOf "__init__" qn (iA p1 p2) (iB q1 q2 q3 q4) iS .none .none doc pm an cdv ct), osl⟩ ∧ codeIn K cdv qn = true
theorem one_size (v : Value) : [v].length ≤ sizeLine := by
  rw [sizeLine_eq]
  exact (by decide : 1 ≤ 16777216)
theorem kept_but {K : Frag} {h h' : Heap} {x : Addr} (X : K.In h) (hx : K.lookup x = none) (k : ∀ b o, b ≠ x → h.get? b = some o → h'.get? b = some o) : K.In h' := fun a o e =>
  k a o (fun z => by rw [z, hx] at e; cases e) (X a o e)
theorem ldC {M : Model} {s : Shared} {name : Str} {scope : Scope} {L a : Addr} {cd : Value} {m : Str → Option Value} {x : Str} {pos : Pos} {v : Value} {Q : Value → Shared → Prop} {A : Around} {E : Value → Shared → Prop} (hn : s.heap.Ns L m) (hv : m x = some v) (h : Q v s)
    (hk : scope.kind = .function := by rfl) (hl : (envOfC name scope L a cd).kindOf x = some .local := by rfl) (hd : (x == ("__debug__" : Str)) = false := by decide) :
    wpAny M A (eval (.Name x pos) (envOfC name scope L a cd)) Q E s := wpAny_Name (wpAny_loadName_local hk hl hn hv h) hd
/-- what __init__ leaves of a fresh exception at x -/
structure InitEnd (h h' : Heap) (x C dx t1 : Addr) (v : Value) : Prop where
  keep : ∀ b o, b ≠ x → h.get? b = some o → h'.get? b = some o
  obj : h'.get? x = some { cls := .ref C, dict := some dx, data := .fields #[.ref t1, .none, .none, .none, .bool false, .none] }
  dbig : h.objs.size ≤ dx
  dne : dx ≠ x
  ns : h'.Ns1 dx (fun y => if y = "at" then some v else none)
/-- a made Low -/
structure OwnMade (h h' : Heap) (e C d : Addr) (v : Value) : Prop where
  keep : ∀ b o, h.get? b = some o → h'.get? b = some o
  new : h.objs.size ≤ e
  obj : ∃ oe vs, h'.get? e = some oe ∧ oe.cls = .ref C ∧ oe.dict = some d ∧ oe.data = .fields vs ∧ vs[1]? = some .none ∧ vs[2]? = some .none
  dbig : h.objs.size ≤ d
  dne : d ≠ e
  ns : h'.Ns1 d (fun y => if y = "at" then some v else none)
section
variable {prog : Program} {w : World} {A : Around} {E : Value → Shared → Prop} {R : Result → Shared → Prop} {s : Shared} {K : Frag} {mg : Str → Option Value} {C fI : Addr} {en qn : Str}
theorem err_init (T : ErrTxt K mg en qn C fI) {x t0 : Addr} {v : Value} (X : K.In s.heap) (hlim : s.heap.NoLimit) (hx : s.heap.get? x = some (excO C t0)) (hnx : K.lookup x = none) (hroom : A.depth < recursionLimit)
    (hq : ∀ h' tk dx, InitEnd s.heap h' x C dx t0 v → R (.ok (.ret .none)) { s with heap := h', toks := tk }) :
    codeAny (model prog w) A (.call (.ref fI) ⟨[.ref x, v], []⟩) R s := by
  obtain ⟨oc, od, doc, pm, an, cdv, ct, osl, p1, p2, q1, q2, q3, q4, ho, hcd⟩ := T.fn
  obtain ⟨nm, q, N, bs, bm, sn, sub, ab, col, dd, k0, k1, k2, k3, k5, hC, hbm⟩ := T.cls
  have hcl : clsIn K C = some { name := nm, bases := bs, mro := .ref C :: bm, ns := N, qualname := q, hasDict := true, slotNames := sn, subclasses := sub, abstract := ab, collection := col, hasDel := false } := by unfold clsIn; rw [hC] <;> rfl
  refine Att.call_fn (binds := [("self", .ref x), ("at", v)]) X hlim ho hcd hroom (BindsTo.of_eq (by first | rfl | with_unfolding_all rfl)) (by first | rfl | decide | with_unfolding_all rfl) (fun s₁ IC => ?_) rfl rfl rfl
  obtain ⟨h₁, tk₁, rfl⟩ := IC.toInCall.same
  have k : ∀ b o, s.heap.get? b = some o → h₁.get? b = some o := IC.toInCall.keep
  have hn := IC.toInCall.ns
  have hxL : s.heap.objs.size ≠ x := Nat.ne_of_gt (Heap.lt_size hx)
  have X₁ : K.In h₁ := X.keeps k
  have hx₁ := k _ _ hx
  -- self.by = by
  show wpAny _ _ (execs _ _) _ _ _
  refine wpAny_execs_cons (plainObj_wpAny_Assign_Attribute ?_)
  refine ldC (v := v) hn (by first | rfl | with_unfolding_all rfl | kernel_rfl) (ldC (v := .ref x) hn (by first | rfl | with_unfolding_all rfl | kernel_rfl) ?_)
  refine set_plain X₁ (ox := excO C t0) (od := none) ⟨hx₁, rfl, rfl, trivial⟩ T.sa ?_
  refine exc_osa X₁ hx₁ hcl (show refsVE (.ref C :: bm) = true from hbm) rfl T.noN (fun h₃ tk₃ dx k₃ dn dne hx₃ hn₃ => ?_)
  show wpAny _ _ (execs _ _) _ _ _
  have z : s.heap.objs.size < h₁.objs.size := hn.lt
  exact wpAny_execs_nil (hq h₃ tk₃ dx ⟨fun b o hb e => k₃ b o hb (k b o e), hx₃, Nat.le_of_lt (Nat.lt_of_lt_of_le z dn), dne, hn₃⟩)
theorem err_made (T : ErrTxt K mg en qn C fI) {v : Value} (X : K.In s.heap) (hlim : s.heap.NoLimit) (hroom : A.depth + 1 < recursionLimit)
    (hq : ∀ h' tk e d, OwnMade s.heap h' e C d v → R (.ok (.ret (.ref e))) { s with heap := h', toks := tk }) :
    codeAny (model prog w) A (.call (.ref C) ⟨[v], []⟩) R s := by
  obtain ⟨nm, q, N, bs, bm, sn, sub, ab, col, dd, k0, k1, k2, k3, k5, hC, hbm⟩ := T.cls
  obtain ⟨hp, g, dr, tk, os⟩ := s
  have k : ∀ b o, hp.get? b = some o → ((hp.push (kdv_tup [v])).push (excO C hp.objs.size)).get? b = some o := fun b o e => Heap.get?_push_of_some _ (Heap.get?_push_of_some _ e)
  have hget : ((hp.push (kdv_tup [v])).push (excO C hp.objs.size)).get? (hp.objs.size + 1) = some (excO C hp.objs.size) := by heap_get
  have hnx : K.lookup (hp.objs.size + 1) = none := by
    cases e : K.lookup (hp.objs.size + 1) with
    | none => rfl
    | some o =>
      have z : hp.get? (hp.objs.size + 1) = some o := X _ _ e
      exact absurd (Nat.lt_of_succ_lt (Heap.lt_size z)) (Nat.lt_irrefl _)
  refine call_own F.excBase_ValueError (fun X => refsVE_contains X bm hbm) (X _ _ hC) (looks_findIn X T.iC) (fun self => bind_fn X self T.tC) (one_size v) ?_
  refine err_init (s := ⟨(hp.push (kdv_tup [v])).push (excO C hp.objs.size), g, dr, tk, os⟩) T (X.keeps k) (hlim.keeps k) hget hnx ?_ fun h' tk' dx ⟨k', hx, dn, dne, hns⟩ => ?_
  · show A.depth + 1 < recursionLimit
    exact hroom
  · have old : ∀ b o, hp.get? b = some o → h'.get? b = some o := fun b o e => k' b o (Nat.ne_of_lt (Nat.lt_succ_of_lt (Heap.lt_size e))) (k b o e)
    have z : hp.objs.size + 1 + 1 ≤ dx := by
      first
        | (simpa only [Heap.size_push] using dn)
        | exact dn
        | (have q := dn; rw [Heap.size_push, Heap.size_push] at q; exact q)
    exact ⟨rfl, hq h' tk' (hp.objs.size + 1) dx ⟨old, Nat.le_succ _, ⟨_, _, hx, rfl, rfl, rfl, rfl, rfl⟩, Nat.le_trans (Nat.le_trans (Nat.le_succ _) (Nat.le_succ _)) z, dne, hns⟩⟩
end
end ErrX
end PySem
namespace KX
open PySem PySem.Spec PyProof.Rows L2
theorem relO_err {v : V} {v' : Value} (r : RelV v v') (f : Str) : RelO (List.lookup f [(("at" : Str), v)]) (if f = "at" then some v' else none) := by
  by_cases hw : f = "at"
  · subst hw
    rw [if_pos rfl]
    have q : List.lookup ("at" : Str) [(("at" : Str), v)] = some v := by simp [List.lookup]
    rw [q]
    exact r
  · rw [if_neg hw]
    have qw : (f == ("at" : Str)) = false := by simpa using hw
    have q2 : List.lookup f [(("at" : Str), v)] = none := by simp [List.lookup, qw]
    rw [q2]
    trivial
section
variable {X : Cx} {C fI : Addr} {en qn : Str}
/-- Low(e) -/
def tMkErr (C : Addr) (ta : TA) : L2.St → Hp → XK → Prop := fun σ H Q => ta σ H fun vs H1 => ∃ v, vs = [v] ∧ ∀ d, H1 d = none → Q (.ref C) (some d) (upd H1 d (.xd [(("at" : Str), v)]))
theorem pmk_err {a : Expr} {ta : TA} {p pos : Pos} {k : Nat} (T : PySem.ErrX.ErrTxt X.K X.mg en qn C fI) (hr : Room k X.A) (ha : PA X [a] ta) (hg : Gl X en := by rfl) (hdb : (en == ("__debug__" : Str)) = false := by decide)
    (he : starEach (a :: []) X.env = (false, eval a X.env) :: starEach [] X.env := by rfl) (hpl : (backTo pos (starEach [] X.env)).any (·.1) = false := by rfl) :
    L2N.PMk X (.Call (.Name en p) [a] [] pos) (tMkErr C ta) := by
  intro pins s σ H Q I h
  refine wpAny_Call_Name_kw (ld_glob I hg T.gC ?_ hdb)
  refine PySem.W.callWith_K (h₀ := X.base) I.ok.mod.kin T.kC (thn (ha.run pos pins s σ H _ I h) fun us s1 hh => ?_) he hpl
  obtain ⟨vs, H1, I1, r1, v, ev, q1⟩ := hh
  subst ev
  refine ⟨I1.kIn, ?_⟩
  cases r1 with
  | cons rv rn =>
    rename_i v' us'
    cases rn
    show wpAny _ _ (call (.ref C) [v']) _ _ _
    have hlim := I1.nolimit
    obtain ⟨hp, g, dr, tk, os⟩ := s1
    refine wpAny_call (PySem.ErrX.err_made T I1.kIn hlim (by have := hr.dp; omega) fun h' tk' e d M => ?_)
    show L2N.MkP X pins σ Q (.ref e) ⟨h', g, dr, tk', os⟩
    obtain ⟨oe, fv, hoe, hc, hd, hdat, h1, h2⟩ := M.obj
    have hns := M.ns
    obtain ⟨G', g1, g2⟩ := restrict h' fun b => decide (b ≠ e)
    have gk : ∀ b, b ≠ e → G'.get? b = h'.get? b := fun b hb => g1 b (decide_eq_true hb)
    have ge : G'.get? e = none := g2 e (by simp)
    have old : ∀ b o, hp.get? b = some o → G'.get? b = some o := fun b o q => (gk b (Nat.ne_of_lt (Nat.lt_of_lt_of_le (Heap.lt_size q) M.new))).trans (M.keep b o q)
    have ob : ObjOk X.prog X.w (upd H1 d (.xd [(("at" : Str), v)])) G' d (.xd [(("at" : Str), v)]) :=
      ⟨_, hns.at (fun o q => (gk d M.dne).trans q), fun f => relO_err rv f⟩
    have J : Inv X pins σ (upd H1 d (.xd [(("at" : Str), v)])) ⟨G', g, dr, tk', os⟩ := I1.laid (t' := tk') old M.dbig ob
    refine ⟨e, oe, fv, ⟨G', g, dr, tk', os⟩, _, .ref C, some d, rfl, J, fun b o q => ?_, ge, hoe, ⟨hc, hd, fun vs' z => by rw [hdat] at z; cases z; exact h2⟩, hdat, h1, ?_, rfl, I1.bare, raises_own T.exC T.tyC, q1 d (I1.hok.fresh M.dbig)⟩
    · by_cases hb : b = e
      · have q' : G'.get? b = some o := q
        rw [hb, ge] at q'; cases q'
      · exact (gk b hb).symm.trans q
    · rw [upd_ne (Ne.symm M.dne)]
      exact I1.hok.fresh M.new
/-- raise Low(e) -/
def tRaiseErr (C : Addr) (W : WX) (ta : TA) : TS := fun _ σ H => tMkErr C ta σ H fun cls d H' => W cls d σ H'
theorem ps_raiseErr {a : Expr} {ta : TA} {W : WX} {p pos pos2 : Pos} {k : Nat} (hc : X.calm = true) (T : PySem.ErrX.ErrTxt X.K X.mg en qn C fI) (hr : Room k X.A) (tk : L2N.Takes X W) (ha : PA X [a] ta) (hg : Gl X en := by rfl) (hdb : (en == ("__debug__" : Str)) = false := by decide)
    (he : starEach (a :: []) X.env = (false, eval a X.env) :: starEach [] X.env := by rfl) (hpl : (backTo pos (starEach [] X.env)).any (·.1) = false := by rfl) :
    PS X (.Raise (some (.Call (.Name en p) [a] [] pos)) none pos2) (tRaiseErr C W ta) := L2N.ps_raise hc tk (pmk_err T hr ha hg hdb he hpl)
end
end KX

namespace PySem
namespace ErrX
open PySem.W PySem.Calls PyProof.Rows PySem.HandSPX
def iA0 (p1 : Pos) : Arguments :=
  { posonlyargs := [], args := [{ arg := "self", annotation := none, pos := p1 }], vararg := none,
    kwonlyargs := [], kw_defaults := [], kwarg := none, defaults := [] }
def iS0 : Scope :=
  { kind := .function, names := [(PySem.Str.ofString "self", .local)], isGenerator := false, isCoroutine := false, more := [] }
/-- an error class whose __init__(self) does nothing -/
structure ErrTxt0 (K : Frag) (mg : Str → Option Value) (en qn : Str) (C fI : Addr) : Prop where
  gC : mg en = some (.ref C)
  cls : ∃ nm q N bs bm sn sub ab col dd k0 k1 k2 k3 k5,
    K.lookup C = some (excClassObj nm q C N bs bm true sn sub ab col dd k0 k1 k2 k3 k5 "ValueError.__new__") ∧ refsVE bm = true
  iC : findIn K (.ref C) "__init__" = some (some (.ref fI))
  tC : typeIn K (.ref fI) = some (.type "function")
  kC : keepIn K (.ref C) = true
  exC : subIn K (.ref C) (.type "BaseException") = some true
  tyC : typeIn K (.ref C) = some (.type "type")
  fn : ∃ (oc : Value) (od : Option Addr) (doc pm : Value) (an : Option Addr) (cdv ct : Value) (osl : Array (Option Value)) (p1 q1 : Pos),
    K.lookup fI = some ⟨oc, od, .func (fnOf "__init__" qn (iA0 p1) [.Pass q1] iS0 .none .none doc pm an cdv ct), osl⟩ ∧
      codeIn K cdv qn = true
/-- what is made: an exception without a dict -/
structure OwnMade0 (h h' : Heap) (e C : Addr) : Prop where
  keep : ∀ b o, h.get? b = some o → h'.get? b = some o
  new : h.objs.size ≤ e
  obj : ∃ oe vs, h'.get? e = some oe ∧ oe.cls = .ref C ∧ oe.dict = none ∧ oe.data = .fields vs ∧ vs[1]? = some .none ∧
    vs[2]? = some .none
section
variable {prog : Program} {w : World} {A : Around} {E : Value → Shared → Prop} {R : Result → Shared → Prop}
  {s : Shared} {K : Frag} {mg : Str → Option Value} {C fI : Addr} {en qn : Str}
theorem err_init0 (T : ErrTxt0 K mg en qn C fI) {x : Addr} (X : K.In s.heap) (hlim : s.heap.NoLimit)
    (hroom : A.depth < recursionLimit)
    (hq : ∀ h' tk, (∀ b o, s.heap.get? b = some o → h'.get? b = some o) → R (.ok (.ret .none)) { s with heap := h', toks := tk }) :
    codeAny (model prog w) A (.call (.ref fI) ⟨[.ref x], []⟩) R s := by
  obtain ⟨oc, od, doc, pm, an, cdv, ct, osl, p1, q1, ho, hcd⟩ := T.fn
  refine Att.call_fn (binds := [("self", .ref x)]) X hlim ho hcd hroom
    (BindsTo.of_eq (by first | rfl | with_unfolding_all rfl)) (by first | rfl | decide | with_unfolding_all rfl)
    (fun s₁ IC => ?_) rfl rfl rfl
  obtain ⟨h₁, tk₁, rfl⟩ := IC.toInCall.same
  show wpAny _ _ (execs _ _) _ _ _
  refine wpAny_execs_cons ?_
  refine wpAny_Pass ?_
  show wpAny _ _ (execs _ _) _ _ _
  exact wpAny_execs_nil (hq h₁ tk₁ IC.toInCall.keep)
theorem err_made0 (T : ErrTxt0 K mg en qn C fI) (X : K.In s.heap) (hlim : s.heap.NoLimit) (hroom : A.depth + 1 < recursionLimit)
    (hq : ∀ h' tk e, OwnMade0 s.heap h' e C → R (.ok (.ret (.ref e))) { s with heap := h', toks := tk }) :
    codeAny (model prog w) A (.call (.ref C) ⟨[], []⟩) R s := by
  obtain ⟨nm, q, N, bs, bm, sn, sub, ab, col, dd, k0, k1, k2, k3, k5, hC, hbm⟩ := T.cls
  obtain ⟨hp, g, dr, tk, os⟩ := s
  have k : ∀ b o, hp.get? b = some o → ((hp.push (kdv_tup [])).push (excO C hp.objs.size)).get? b = some o :=
    fun b o e => Heap.get?_push_of_some _ (Heap.get?_push_of_some _ e)
  have hget : ((hp.push (kdv_tup [])).push (excO C hp.objs.size)).get? (hp.objs.size + 1) = some (excO C hp.objs.size) := by
    heap_get
  refine call_own F.excBase_ValueError (fun X => refsVE_contains X bm hbm) (X _ _ hC) (looks_findIn X T.iC)
    (fun self => bind_fn X self T.tC) (Nat.zero_le _) ?_
  refine err_init0 (s := ⟨(hp.push (kdv_tup [])).push (excO C hp.objs.size), g, dr, tk, os⟩) T (X.keeps k) (hlim.keeps k) ?_
    fun h' tk' k' => ?_
  · show A.depth + 1 < recursionLimit
    exact hroom
  · exact ⟨rfl, hq h' tk' (hp.objs.size + 1) ⟨fun b o e => k' b o (k b o e), Nat.le_succ _,
      ⟨_, _, k' _ _ hget, rfl, rfl, rfl, rfl, rfl⟩⟩⟩
end
end ErrX
end PySem

namespace KX
open PySem PySem.Spec PyProof.Rows L2
section
variable {X : Cx} {C fI : Addr} {en qn : Str}
def tMkErr0 (C : Addr) : L2.St → Hp → XK → Prop := fun _ H Q => Q (.ref C) none H
theorem pmk_err0 {p pos : Pos} {k : Nat} (T : PySem.ErrX.ErrTxt0 X.K X.mg en qn C fI) (hr : Room k X.A) (hg : Gl X en := by rfl)
    (hdb : (en == ("__debug__" : Str)) = false := by decide) : L2N.PMk X (.Call (.Name en p) [] [] pos) (tMkErr0 C) := by
  intro pins s σ H Q I h
  refine wpAny_Call_Name_kw (ld_glob I hg T.gC ?_ hdb)
  refine PySem.W.callWith_K0 I.kIn T.kC ?_
  show wpAny _ _ (call (.ref C) []) _ _ _
  have hlim := I.nolimit
  have KX := I.kIn
  obtain ⟨hp, g, dr, tk, os⟩ := s
  refine wpAny_call (PySem.ErrX.err_made0 T KX hlim (by have := hr.dp; omega) fun h' tk' e M => ?_)
  show L2N.MkP X pins σ Q (.ref e) ⟨h', g, dr, tk', os⟩
  obtain ⟨oe, fv, hoe, hc, hd, hdat, h1, h2⟩ := M.obj
  refine ⟨e, oe, fv, ⟨hp, g, dr, tk, os⟩, H, .ref C, none, rfl, I, M.keep, Heap.get?_none_of_le M.new, hoe,
    ⟨hc, hd, fun vs' z => by rw [hdat] at z; cases z; exact h2⟩, hdat, h1, I.hok.fresh M.new, rfl, I.bare,
    raises_own T.exC T.tyC, h⟩
def tRaiseErr0 (C : Addr) (W : WX) : TS := fun _ σ H => W (.ref C) none σ H
theorem ps_raiseErr0 {W : WX} {p pos pos2 : Pos} {k : Nat} (hc : X.calm = true) (T : PySem.ErrX.ErrTxt0 X.K X.mg en qn C fI)
    (hr : Room k X.A) (tk : L2N.Takes X W) (hg : Gl X en := by rfl) (hdb : (en == ("__debug__" : Str)) = false := by decide) :
    PS X (.Raise (some (.Call (.Name en p) [] [] pos)) none pos2) (tRaiseErr0 C W) :=
  L2N.ps_raise hc tk (pmk_err0 T hr hg hdb)
end
end KX

namespace KX
open PySem PySem.Spec PyProof.Rows L2 L2H
/-! contracts under a condition C on the call's surroundings -/
abbrev Con := Around → List Env → Shared → Hp → Prop
structure FnR (P : Program) (w : World) (K : PySem.W.Frag) (mg : Str → Option Value) (base : Heap) (CX : CXT) (C : Con)
    (f : Addr) (fd : FuncData) (ps : List Str) (sp : Sp) : Prop where
  sized : ∀ vs H Q E, sp vs H Q E → vs.length = ps.length
  does : ∀ (A : Around) (outer : List Env) (s : Shared) (H : Hp) (args : Args) (us : List Value) (vs : List V) (Q : VK) (E : XK),
    C A outer s H → Env0 P w K mg base A outer s H → BindsTo s fd args (ps.zip us) → Vals vs us → sp vs H Q E →
      codeAny (model P w) A (.call (.ref f) args) (CR CX outer P w H s Q E) s
/-- no repr is under way -/
def CG (k : Nat) : Con := fun A _ _ _ => Room k A ∧ A.guards = some []
/-- p is the exception that is handled -/
def CP (k : Nat) (p : Addr × Obj) : Con := fun A outer s H => RoomH k A ∧ Hot1 A p ∧ PinOk outer H s p
/-- a body's context, calm or not, with pins -/
abbrev cxV (c : Bool) (pn : List (Addr × Obj)) (X : Cx) : Cx := { X with calm := c, pn := pn }
section
variable {CX : CXT} {P : Program} {w : World} {K : PySem.W.Frag} {mg : Str → Option Value} {base : Heap} {f : Addr}
  {name qual : Str} {params : Arguments} {body : List Stmt} {scope : Scope} {dV kV doc pm cdv ct oc : Value}
  {an od : Option Addr} {osl : Array (Option Value)} {N ps : List Str}
theorem call_body {A : Around} {outer : List Env} {s : Shared} {H : Hp} {args : Args} {us : List Value} {vs : List V} {Q : VK}
    {E : XK} {c : Bool} {pn : List (Addr × Obj)}
    (lk : K.lookup f = some ⟨oc, od, .func (PySem.W.fnOf name qual params body scope dV kV doc pm an cdv ct), osl⟩)
    (hcd : PySem.W.codeIn K cdv qual = true) (S : FnScope N ps scope) (hdp : A.depth < recursionLimit)
    (e0 : Env0 P w K mg base A outer s H)
    (hb : BindsTo s (PySem.W.fnOf name qual params body scope dV kV doc pm an cdv ct) args (ps.zip us))
    (begins : ∀ s1, InCallC s s.heap.objs.size
        (bindL (envOfC qual scope s.heap.objs.size f cdv).kindOf (ps.zip us) fun _ => none)
        (cellsFrom (s.heap.objs.size + 1) scope.names [])
        (bindC (envOfC qual scope s.heap.objs.size f cdv).kindOf (ps.zip us) fun _ => none) s1 →
      L2.Inv (cxV c pn (cxOf CX P w K mg base N qual scope f cdv A outer s H E)) [] (L2.start N vs) H s1)
    (reads : ∃ t, PSs (cxV c pn (cxOf CX P w K mg base N qual scope f cdv A outer s H E)) body t ∧
      t { nx := fun _ H' => Q .non H', rt := Q } (L2.start N vs) H) :
    codeAny (model P w) A (.call (.ref f) args) (CR CX outer P w H s Q E) s := by
  have stays : ∀ b o, base.get? b = some o → s.heap.get? b = some o := fun b o e => (e0.bs b o e).1
  have KI := e0.mod.kin.keeps stays
  have NL := e0.mod.nolimit.keeps stays
  refine codeAny_call_function hdp (KI _ _ lk) rfl S.co S.gen rfl
    (PySem.W.codeRec_of KI hcd) (hb _ _ _ _ ?_)
  refine wpAny_newFunctionEnv_cells S.kind (fun y hy => ?_) fun env he s1 x => ?_
  · obtain ⟨n, v⟩ := y
    cases S.par n (List.of_mem_zip hy).1 with
    | inl q => exact Or.inl q
    | inr q => exact Or.inr ⟨q, PySem.W.cellsFrom_some _ _ _ (Or.inl q)⟩
  · subst he
    obtain ⟨t, ht, hq⟩ := reads
    have I := begins s1 x
    refine ⟨NL.keeps x.toInCall.keep, codeAny_func (wpAny_mono (ht.run [] s1 (L2.start N vs) H _ I hq)
      (fun fl s' hs => ?_) fun e s' hs => hs)⟩
    cases fl with
    | ret u =>
      obtain ⟨v, σ', H', J, rv, q⟩ := hs
      exact ⟨v, H', J.os, J.bare, J.base, J.hok, rv, q⟩
    | next =>
      obtain ⟨σ', H', J, q⟩ := hs
      exact ⟨V.non, H', J.os, J.bare, J.base, J.hok, rfl, q⟩
    | brk => exact False.elim hs.choose_spec.choose_spec.2
    | cont => exact False.elim hs.choose_spec.choose_spec.2
/-- a def under CG -/
theorem fnG_of {k : Nat} {sp : Sp}
    (lk : K.lookup f = some ⟨oc, od, .func (PySem.W.fnOf name qual params body scope dV kV doc pm an cdv ct), osl⟩)
    (hcd : PySem.W.codeIn K cdv qual = true) (S : FnScope N ps scope)
    (sized : ∀ vs H Q E, sp vs H Q E → vs.length = ps.length)
    (reads : ∀ (A : Around) (outer : List Env) (s : Shared) (H : Hp) (vs : List V) (Q : VK) (E : XK),
      Room k (A.deeper (envOfC qual scope s.heap.objs.size f cdv)) → A.guards = some [] → sp vs H Q E →
      ∃ t, PSs (cxOf CX P w K mg base N qual scope f cdv A outer s H E) body t ∧
        t { nx := fun _ H' => Q .non H', rt := Q } (L2.start N vs) H) :
    FnR P w K mg base CX (CG (k + 1)) f (PySem.W.fnOf name qual params body scope dV kV doc pm an cdv ct) ps sp :=
  ⟨sized, fun A outer s H args us vs Q E hc e0 hb r h =>
    call_body (c := true) (pn := []) lk hcd S hc.1.depth e0 hb
      (fun s1 x => inv_start S hc.1.hd e0 (sized _ _ _ _ h) r x) (reads A outer s H vs Q E (hc.1.deeper _) hc.2 h)⟩
/-- a def under CP -/
theorem fnP_of {k : Nat} {sp : Sp} {p : Addr × Obj}
    (lk : K.lookup f = some ⟨oc, od, .func (PySem.W.fnOf name qual params body scope dV kV doc pm an cdv ct), osl⟩)
    (hcd : PySem.W.codeIn K cdv qual = true) (S : FnScope N ps scope)
    (sized : ∀ vs H Q E, sp vs H Q E → vs.length = ps.length)
    (reads : ∀ (A : Around) (outer : List Env) (s : Shared) (H : Hp) (vs : List V) (Q : VK) (E : XK), Hot1 A p →
      RoomH k (A.deeper (envOfC qual scope s.heap.objs.size f cdv)) → sp vs H Q E →
      ∃ t, PSs (cxV false [p] (cxOf CX P w K mg base N qual scope f cdv A outer s H E)) body t ∧
        t { nx := fun _ H' => Q .non H', rt := Q } (L2.start N vs) H) :
    FnR P w K mg base CX (CP (k + 1) p) f (PySem.W.fnOf name qual params body scope dV kV doc pm an cdv ct) ps sp :=
  ⟨sized, fun A outer s H args us vs Q E hc e0 hb r h =>
    call_body (c := false) (pn := [p]) lk hcd S hc.1.depth e0 hb
      (fun s1 x => inv_startH S hc.2.2 e0 (sized _ _ _ _ h) r x)
      (reads A outer s H vs Q E hc.2.1 (hc.1.deeper _) h)⟩
end
section
variable {X : Cx} {CX : CXT} {C : Con} {f : Addr} {fd : FuncData} {ps : List Str} {sp : Sp} {E : XK} {x : Str} {p pos : Pos}
  {e : Expr} {es : List Expr} {t : TA}
/-- a call of such a def -/
theorem pe_callR (F : FnR X.prog X.w X.K X.mg X.base CX C f fd ps sp)
    (hC : ∀ pins σ H s, L2.Inv X pins σ H s → C X.A X.stack s H) (hg : Gl X x) (hm : X.mg x = some (.ref f))
    (hk : PySem.W.keepIn X.K (.ref f) = true) (hb : Binds X.K fd ps []) (hx : Passes CX X E) (ha : PA X (e :: es) t)
    (hdb : (x == ("__debug__" : Str)) = false := by decide)
    (he : starEach (e :: es) X.env = (false, eval e X.env) :: starEach es X.env := by rfl)
    (hpl : (backTo pos (starEach es X.env)).any (·.1) = false := by rfl) :
    PE X (.Call (.Name x p) (e :: es) [] pos) (tCall sp [] E t) := by
  refine ⟨fun pins s σ H Q I h => wpAny_Call_Name_kw (ld_glob I hg hm ?_ hdb)⟩
  refine PySem.W.callWith_K (h₀ := X.base) I.ok.mod.kin hk
    (thn (ha.run pos pins s σ H _ I h) fun us s1 hh => ?_) he hpl
  obtain ⟨vs, H1, I1, r, q⟩ := hh
  rw [List.append_nil] at q
  have hl : (us ++ []).length = ps.length := by
    rw [List.append_nil, ← r.length]
    exact F.sized _ _ _ _ q
  have b := hb s1 us I1.kIn hl
  rw [List.append_nil] at b
  refine ⟨I1.kIn, wpAny_call (codeAny_mono
    (F.does X.A X.stack s1 H1 ⟨us, []⟩ us vs Q E (hC _ _ _ _ I1) I1.env0 b r q) fun r s' hq => ?_)⟩
  match r, hq with
  | .error e, hq => exact hx pins σ H1 s1 e s' I1 hq
  | .ok (.ret u), hq => exact I1.after hq
end
end KX

namespace KX
open PySem PySem.Spec PyProof.Rows L2 L2H
/-! in an except suite -/
theorem hot_suite {X : Cx} {a : Addr} {oe : Obj} {cls : Value} {d : Option Addr} {pn : List (Addr × Obj)}
    (hz : L2N.Zn cls d oe) (hf : ∃ vs, oe.data = .fields vs) : HotC (X.suite a ((a, oe) :: pn)) := by
  obtain ⟨vs, hv⟩ := hf
  exact ⟨(a, oe), ⟨rfl, vs, hv, hz.2.2 vs hv⟩, List.mem_cons_self⟩
/-- the dict of the exception, if any, is tracked -/
def DictIs (d : Option Addr) (H : Hp) : Prop := d = none ∨ ∃ dd fs, d = some dd ∧ H dd = some (.xd fs)
/-- isinstance(e, c), e pinned -/
def rIsP (K : PySem.W.Frag) (D a : Addr) (d : Option Addr) : List V → Hp → VK → Prop := fun xs H Q =>
  DictIs d H ∧ ∃ (c : V) (cv : Value) (b : Bool), xs = [.ref a, c] ∧ (∀ u, RelV c u → u = cv) ∧
    PySem.W.kitOne K (.ref D) cv = some b ∧ Q (.bl b) H
theorem call_isP {X : Cx} {a D : Addr} {oe : Obj} {d : Option Addr} (C : ExcC X.K D) (hp : (a, oe) ∈ X.pn)
    (hz : Zc (.ref D) d oe) (hf : ∃ vs, oe.data = .fields vs) : CallR X (.builtin "isinstance") (rIsP X.K D a d) := by
  intro pins s σ H xs us Q I r h
  obtain ⟨hd, c, cv, b, rfl, hcv, e, q⟩ := h
  cases r with
  | cons rx rr =>
    cases rr with
    | cons rt rr =>
      cases rr
      cases rx
      have ec := hcv _ rt
      subst ec
      obtain ⟨hget, _⟩ := I.pin (a, oe) (List.mem_append_left _ hp)
      obtain ⟨vs, hv⟩ := hf
      obtain ⟨od, J⟩ : ∃ od, PySem.W.InstAt s.heap a oe D od := by
        rcases hd with hd | ⟨dd, fs, hd, hH⟩
        · refine ⟨none, hget, hz.1, by unfold PySem.W.notCls; rw [hv] <;> rfl, ?_⟩
          rw [hz.2, hd]
          trivial
        · have hx : ObjOk X.prog X.w H s.heap dd (.xd fs) := I.hok dd _ hH
          obtain ⟨mA, hns, _⟩ := hx
          obtain ⟨od, ho, _⟩ := lookIn_ns hns
          refine ⟨some od, hget, hz.1, by unfold PySem.W.notCls; rw [hv] <;> rfl, ?_⟩
          rw [hz.2, hd]
          exact ho
      have hcl : (PySem.W.clsIn X.K D).isSome = true := by
        obtain ⟨cd, hc, _⟩ := PySem.W.any_some C.hd
        rw [hc]
        rfl
      exact PySem.W.kia_one (PySem.W.kitx_exc (od := od) (ox := oe) hcl C.hg C.hk C.hs C.ha C.hn C.ht C.hm) I.kIn J e
        (fun z => nomatch z) fun tk => ⟨.bl b, H, I.kept (t' := tk) fun _ _ z => z, rfl, q⟩
/-! a list comprehension there -/
section
variable {X : Cx}
/-- the block's context, the handled exception pinned -/
abbrev hblk (X : Cx) (p : Addr × Obj) (s : Shared) (H : Hp) (scope : Scope) (ce : Env) (fp : List Addr) : Cx :=
  (X.blk s H scope ce fp).tr ([] ++ [p]) (fun _ _ => False)
theorem to_hblk {p : Addr × Obj} {s s' : Shared} {H H' : Hp} {scope : Scope} {ce : Env} {fp : List Addr} {σ : L2.St}
    (I : L2.Inv (X.blk s H scope ce fp) [] σ H' s')
    (h : s'.heap.get? p.1 = some p.2 ∧ H' p.1 = none ∧ p.1 ≠ ce.locals ∧ p.1 ∉ (X.blk s H scope ce fp).fs ∧ ∀ v, p.2.data ≠ .cell v) :
    L2.Inv (hblk X p s H scope ce fp) [] σ H' s' :=
  (I.pins_of (pins' := [p]) fun q hq => by rw [List.mem_singleton.mp hq]; exact h).toTry _
theorem hblk_hot {p : Addr × Obj} {s : Shared} {H : Hp} {scope : Scope} {ce : Env} {fp : List Addr} (h : Hot1 X.A p) :
    HotC (hblk X p s H scope ce fp) := ⟨p, h, by simp⟩
theorem pe_lcHot {p : Addr × Obj} {elt tg iter : Expr} {scope : Scope} {own : List (Str × Nat)} {pos : Pos} {wi : TI} {g : TG}
    {te : TE} (hot : Hot1 X.A p) (hp : p ∈ X.pn) (hN : X.N.Nodup) (hi : PIH X tg iter wi) (ok : BlkOk X.N X.env.scope scope own)
    (hg : ∀ s H C cl fp, PG (hblk X p s H scope (compEnvC scope cl C X.env) fp) tg g)
    (he : ∀ s H C cl fp, PE (hblk X p s H scope (compEnvC scope cl C X.env) fp) elt te)
    (hs : ∀ x, foldedSetIterable iter X.env x = pure x := by intro _; rfl) :
    PE X (.ListComp elt [⟨tg, iter, [], 0⟩] scope pos) (tLc wi g tYes te (own.map (·.2))) := by
  refine ⟨fun pins s σ H Q I h => ?_⟩
  rw [eval_ListComp]
  have free : ∀ y ∈ scope.names, y.2 = .free → ∃ c, X.env.cells.lookup y.1 = some c := fun y hy e =>
    (ok.free y hy e).elim (fun k => I.ok.has _ (Or.inl k)) fun k => I.ok.has _ (Or.inr k)
  refine wpAny_comprehension_free (use := none) rfl hs (closure_ok free) ok.kind
    (fun y hy e => by rw [ok.uniq y hy, e])
    (thn (hi.run pins s σ H _ I h) fun xv s1 hx => thn hx fun itv s2 h2 => ?_)
  obtain ⟨it, fp, tn, J, H2, e, I2, T, st2, f2, q⟩ := h2
  subst e
  refine wpAny_newObj_type (newEnv_comp ?_) (by show 0 ≤ sizeLine; decide)
  generalize hD : s2.heap.objs.size = D
  have hDn : H2 D = none := I2.hok.fresh (Nat.le_of_eq hD)
  obtain ⟨W, ⟨m0, w0⟩, turn⟩ := q D hDn
  generalize hs3 : ({ s2 with heap := s2.heap.push { cls := .type "list", data := .seq ([] : List Value).toArray } } : Shared) = s3
  have k23 : ∀ b o, s2.heap.get? b = some o → s3.heap.get? b = some o := fun b o e => by
    rw [← hs3]
    exact Heap.get?_push_of_some _ e
  have I3 : L2.Inv X pins σ (upd H2 D (.lst [])) s3 := by
    rw [← hs3]
    refine I2.laid (t' := s2.toks) (fun b o e => Heap.get?_push_of_some _ e) (Nat.le_of_eq hD)
      ⟨Nat.zero_le _, [], 0, .nil, ?_⟩
    rw [← hD]
    exact Heap.get?_push_size _ rfl
  have sz3 : s3.heap.objs.size = s2.heap.objs.size + 1 := by rw [← hs3]; exact Heap.size_push ..
  have P3 := I3.pin p (List.mem_append_left _ hp)
  have small : ∀ b ∈ fp, b < s2.heap.objs.size := fun b hb =>
    let ⟨_, e, _⟩ := T.obj _ _ st2 b hb
    Heap.lt_size e
  have f3 : ∀ b ∈ fp, FpOk X pins (upd H2 D (.lst [])) b ∧ b < s3.heap.objs.size := fun b hb => by
    have hlt := small b hb
    refine ⟨⟨?_, (f2 b hb).2⟩, by rw [sz3]; exact Nat.lt_succ_of_lt hlt⟩
    rw [upd_ne (by rw [← hD]; exact Nat.ne_of_lt hlt)]
    exact (f2 b hb).1
  have st3 : tn 0 s3.heap := T.keep _ _ _ st2 fun b _ o e => k23 b o e
  have I4' := block_start I3 ok hN f3
  show codeAny _ _ (.compStart (.ListComp elt [⟨tg, iter, [], 0⟩] scope pos) 0 (.ref it) (.ref D)
      (compEnvC scope (cellsFrom (s3.heap.objs.size + 1) scope.names (cloFrom X.env.cells scope.names [])) s3.heap.objs.size X.env))
    (compPost (model X.prog X.w) X.A X.xe none (EP X pins σ Q) (.ref D) s3.heap.objs.size)
    { s3 with heap := pushCells (s3.heap.push { cls := .type "dict", data := .dict #[] }) scope.names }
  have pg := hg s3 (upd H2 D (.lst [])) s3.heap.objs.size
    (cellsFrom (s3.heap.objs.size + 1) scope.names (cloFrom X.env.cells scope.names [])) fp
  have pe := he s3 (upd H2 D (.lst [])) s3.heap.objs.size
    (cellsFrom (s3.heap.objs.size + 1) scope.names (cloFrom X.env.cells scope.names [])) fp
  generalize hce : compEnvC scope (cellsFrom (s3.heap.objs.size + 1) scope.names
    (cloFrom X.env.cells scope.names [])) s3.heap.objs.size X.env = ce at I4' pg pe ⊢
  have cL : ce.locals = s3.heap.objs.size := by subst hce; rfl
  generalize hH3 : upd H2 D (.lst []) = H3 at I3 I4' pg pe w0 f3 P3
  generalize hs4 : ({ s3 with heap := pushCells (s3.heap.push { cls := .type "dict", data := .dict #[] }) scope.names } : Shared) = s4
    at I4' ⊢
  have k34 : ∀ b o, s3.heap.get? b = some o → s4.heap.get? b = some o := fun b o e => by
    rw [← hs4]
    exact pushCells_keeps _ _ _ _ (Heap.get?_push_of_some _ e)
  have st4 : tn 0 s4.heap := T.keep _ _ _ st3 fun b _ o e => k34 b o e
  have nfs : p.1 ∉ (X.blk s3 H3 scope ce fp).fs := fun hm =>
    (List.mem_cons.mp (I3.stkSub p.1 hm)).elim P3.2.2.1 P3.2.2.2.1
  have I4 : L2.Inv (hblk X p s3 H3 scope ce fp) [] (wipe σ (own.map (·.2))) H3 s4 := to_hblk I4'
    ⟨k34 _ _ P3.1, P3.2.1, by rw [cL]; exact Nat.ne_of_lt (Heap.lt_size P3.1), nfs, P3.2.2.2.2⟩
  have hc : HotC (hblk X p s3 H3 scope ce fp) := hblk_hot hot
  have nfp : ∀ b ∈ fp, H3 b = none := fun b hb => (f3 b hb).1.1
  have stat : ∀ {σ' : L2.St} {H' : Hp} {s' : Shared}, L2.Inv (hblk X p s3 H3 scope ce fp) [] σ' H' s' → (∀ b ∈ fp, H' b = none) →
      ∀ b ∈ fp, FpOk (hblk X p s3 H3 scope ce fp) [] H' b := fun {σ' H' s'} I' hn b hb =>
    ⟨hn b hb, (I'.ok.exf b hb).1, I'.ok.exfs b hb, Or.inl hb, fun x c e => (I'.ok.exf b hb).2 x c e, fun r hr => by
      have er : r = p := by simpa using hr
      rw [er]
      exact (f3 b hb).1.2.2.2.2.2 p (List.mem_append_left _ hp)⟩
  have loop : codeAny (model X.prog X.w) X.A (.compLoop (.ListComp elt [⟨tg, iter, [], 0⟩] scope pos) 0 (.ref it) (.ref D) ce)
      (compPost (model X.prog X.w) X.A X.xe none (EP X pins σ Q) (.ref D) s3.heap.objs.size) s4 := by
    refine compLoop_any (fun n s' => ∃ i H', L2.Inv (hblk X p s3 H3 scope ce fp) [] (wipe σ (own.map (·.2))) H' s' ∧
      tn i s'.heap ∧ (∀ b ∈ fp, H' b = none) ∧ W i n H') ?_ m0 ⟨0, H3, I4, st4, nfp, w0⟩
    rintro n s5 ⟨i, H5, I5, st5, n5, w5⟩
    rcases turn i n H5 w5 with ⟨stop, qq⟩ | ⟨go, Nx, hNx, step⟩
    · refine thnF (T.done (hblk X p s3 H3 scope ce fp) rfl rfl rfl hc i [] s5 _ H5 (fun _ _ => False) I5 (stat I5 n5) st5 stop)
        fun r s6 hr => ?_
      obtain ⟨rfl, I6⟩ := hr
      have I7 : L2.Inv X pins σ H5 s6 := I3.call' (ch := fp) I6.os I6.base I6.hok I6.bare fun b hb =>
        let z := (f3 b hb).1.2
        ⟨z.2.2.1, z.1, z.2.2.2.1, z.2.2.2.2⟩
      have nC : H5 s3.heap.objs.size = none := by rw [← cL]; exact I6.free
      obtain ⟨m, hn, _⟩ := I6.loc
      have hn : s6.heap.Ns s3.heap.objs.size m := by rw [← cL]; exact hn
      obtain ⟨g0, g1, g2, g3, g4, g5⟩ := I3.fpOk (Nat.le_refl _) nC
      exact ⟨m, hn, fun h'' sb => ⟨.ref D, H5,
        I7.turned (t' := s6.toks) (fun b o hb e => (sb.2 b hb).trans e) g0 g1 g3 g4 g5, rfl, qq⟩⟩
    · refine thnF (T.item (hblk X p s3 H3 scope ce fp) rfl rfl rfl hc i [] s5 _ H5 (fun _ _ => False) I5 (stat I5 n5) st5 go)
        fun r s6 hr => ?_
      obtain ⟨u, rfl, h6⟩ := hr
      refine thnF h6 fun _ s7 h7 => ?_
      obtain ⟨x, H7, I7, r7, y7, st7, n7⟩ := h7
      have I7' := I7.pinned (stat I7 n7) (T.obj _ _ st7)
      refine thnF (pg.run _ s7 _ H7 x u _ I7' r7 (step x H7 y7)) fun _ s8 h8 => ?_
      obtain ⟨σ8, H8, I8, hw8, q8⟩ := h8
      refine wpAny_pure ?_
      have q9 : te σ8 H8 fun y H4 => ∃ acc, H4 D = some (.lst acc) ∧ acc.length < sizeLine ∧ Nx (upd H4 D (.lst (acc ++ [y]))) := q8
      simp only [if_true]
      refine thnF (pe.run _ s8 σ8 H8 _ I8 q9) fun z s10 h10 => ?_
      obtain ⟨yv, H10, I10, r10, acc, hD10, hz10, nx⟩ := h10
      refine app_ok (X := hblk X p s3 H3 scope ce fp) I10 hD10 hz10 r10 fun s11 I11 => ?_
      obtain ⟨m', hm, w'⟩ := hNx _ nx
      have kept : ∀ b ∈ fp, ∀ o, s7.heap.get? b = some o → s11.heap.get? b = some o ∧
          (upd H10 D (.lst (acc ++ [yv]))) b = none := fun b hb o e =>
        let z := I11.pin (b, o) (List.mem_append_right _ (List.mem_append_right _ (mem_pinsAt hb e)))
        ⟨z.1, z.2.1⟩
      refine ⟨m', hm, i + 1, _, (I11.unpinned (pins := [])).weak (by rw [← hw8, wipe_length]) (fun j v e => ?_),
        T.keep _ _ _ st7 fun b hb o e => (kept b hb o e).1, fun b hb => ?_, w'⟩
      · rw [← hw8] at e
        exact (wipe_some e).1
      · obtain ⟨o, e, _⟩ := T.obj _ _ st7 b hb
        exact (kept b hb o e).2
  exact codeAny_compStart_list loop (T.self X.A 0 _ _ _ st4 loop)
end
end KX

namespace KX
open PySem PySem.Spec PyProof.Rows L2 L2H
/-! the law's own call, its def promised under CG -/
theorem none_or_at {H : Hp} {a : Addr} (hA : ∀ b, H b ≠ none → b = a) (b : Addr) : H b = none ∨ b = a := by
  cases q : H b with
  | none => exact Or.inl rfl
  | some u => exact Or.inr (hA b (by rw [q]; exact fun z => nomatch z))
theorem lawG_core {P : Program} {w : World} {K : PySem.W.Frag} {mg mb : Str → Option Value} {CX : CXT} {k : Nat} {fa a : Addr}
    {fd : FuncData} {x : Str} {sp : Sp} {s₁ : Shared} {vs : List Value} {H : Hp}
    (KI : K.In s₁.heap) (hns : s₁.heap.Ns mainGlobals mg) (hb : s₁.heap.Ns builtinsNs mb)
    (hbb : ∀ x : Str, x ≠ "__name__" → mb x = bootBuiltins x) (hlim : s₁.heap.NoLimit) (hg : s₁.gens = #[])
    (ha : s₁.heap.get? a = some { cls := .type "list", data := .seq vs.toArray }) (hr : Room k callerA)
    (F : ∀ base : Heap, K.In base → base.Ns mainGlobals mg → FnR P w K mg base CX (CG k) fa fd [x] sp)
    (hbind : ∀ (s : Shared) (u : Value), BindsTo s fd ⟨[u], []⟩ [(x, u)])
    (hCX : ∀ H e s', CX [] H s₁ (fun _ _ _ => False) e s' → False)
    (hO : Only H) (hS : sp [.ref a] H (fun v _ => v = .bl true) fun _ _ _ => False) (hok : HOk P w H s₁.heap)
    (hA : ∀ b, H b ≠ none → b = a) (hK : H a ≠ none → K.lookup a = none) :
    codeAny (model P w) callerA (.call (.ref fa) ⟨[.ref a], []⟩)
      (fun r s' => r = .ok (.ret (.bool true)) ∧ OldK s₁.heap s'.heap ∧ s'.os = s₁.os ∧ AllBare s'.gens) s₁ := by
  have dictFree : ∀ {b : Addr} {o : Obj} {es : Array DictEntry} {ep : Nat}, s₁.heap.get? b = some o → o.data = .dict es ep → H b = none :=
    fun {b o es ep} e d => (none_or_at hA b).resolve_right fun z => by
      subst z
      rw [ha] at e
      cases e
      have d' : Data.seq vs.toArray _ = Data.dict es ep := d
      cases d'
  have ns' : ∀ {b : Addr} {m : Str → Option Value}, s₁.heap.Ns b m → (hidT s₁.heap H).Ns b m := fun {b m} n => by
    obtain ⟨o, es, ep, e, d, r⟩ := n
    exact ⟨o, es, ep, hidT_get e (dictFree e d), d, r⟩
  have KB : K.In (hidT s₁.heap H) := fun b o e => by
    cases q : H b with
    | none => exact hidT_get (KI b o e) q
    | some u =>
      have eb : b = a := hA b (by rw [q]; exact fun z => nomatch z)
      subst eb
      rw [hK (by rw [q]; exact fun z => nomatch z)] at e
      cases e
  have MB : Mod K mg (hidT s₁.heap H) := by
    obtain ⟨mc, h1, h2⟩ := hlim
    exact ⟨KB, ns' hns, ⟨mb, ns' hb, hbb⟩, ⟨mc, ns' h1, h2⟩⟩
  have e0 : Env0 P w K mg (hidT s₁.heap H) callerA [] s₁ H :=
    ⟨rfl, MB, fun b o e => of_hidT e, Nat.le_of_eq (hidT_size _ _), trivial,
      fun b hb => absurd (show b ∈ ([] : List Addr) from hb) (by simp), hok, .of_eq hg⟩
  refine codeAny_mono ((F _ KB (ns' hns)).does callerA [] s₁ H ⟨[.ref a], []⟩ [.ref a] [.ref a] _ _ ⟨hr, rfl⟩ e0
    (hbind s₁ (.ref a)) (.cons rfl .nil) hS) fun r s' h => ?_
  match r, h with
  | .error e, h => exact (hCX H e s' h).elim
  | .ok (.ret u), h =>
    obtain ⟨v, H', os, bare, un, hok', r', q⟩ := h
    have q' : v = .bl true := q
    subst q'
    obtain rfl : u = Value.bool true := r'
    refine ⟨rfl, OldK.of_keep fun b o e => ?_, os, bare⟩
    cases q : H b with
    | none => exact un.keep b o e q (by intro z; exact absurd (show b ∈ ([] : List Addr) from z) (by simp)) (by simp)
    | some u =>
      rcases hO b with z | ⟨ob, xs, z⟩
      · rw [q] at z
        cases z
      · have e1 := (hok b _ z).1
        have e2 := (hok' b _ (un.frzs b ob _ z)).1
        rw [e] at e1
        cases e1
        exact e2
theorem law_callG {P : Program} {w : World} {K : PySem.W.Frag} {mg mb : Str → Option Value} {CX : CXT} {k : Nat} {fa a : Addr}
    {fd : FuncData} {x : Str} {sp : Sp} {s₁ : Shared} {vs : List Value} {ns : List Int}
    (KI : K.In s₁.heap) (hns : s₁.heap.Ns mainGlobals mg) (hb : s₁.heap.Ns builtinsNs mb)
    (hbb : ∀ x : Str, x ≠ "__name__" → mb x = bootBuiltins x) (hlim : s₁.heap.NoLimit) (hg : s₁.gens = #[])
    (ha : s₁.heap.get? a = some { cls := .type "list", data := .seq vs.toArray }) (hi : IntsAre vs ns)
    (hl : ns.length ≤ sizeLine) (hr : Room k callerA)
    (F : ∀ base : Heap, K.In base → base.Ns mainGlobals mg → FnR P w K mg base CX (CG k) fa fd [x] sp)
    (hbind : ∀ (s : Shared) (u : Value), BindsTo s fd ⟨[u], []⟩ [(x, u)])
    (hsp : ∀ H : Hp, Only H → SqL K H a (ns.map V.int) → sp [.ref a] H (fun v _ => v = .bl true) fun _ _ _ => False)
    (hCX : ∀ H e s', CX [] H s₁ (fun _ _ _ => False) e s' → False) :
    codeAny (model P w) callerA (.call (.ref fa) ⟨[.ref a], []⟩)
      (fun r s' => r = .ok (.ret (.bool true)) ∧ OldK s₁.heap s'.heap ∧ s'.os = s₁.os ∧ AllBare s'.gens) s₁ := by
  have rv := vals_ints hi
  cases hk : K.lookup a with
  | some o =>
    have e := KI a o hk
    rw [ha] at e
    cases e
    have O : Only fun _ => none := fun _ => Or.inl rfl
    have S : SqL K (fun _ => none) a (ns.map V.int) :=
      Or.inr ⟨_, vs.toArray, _, hk, rfl, rfl, rfl, by rw [List.size_toArray, hi.length]; exact hl, by simpa using rv⟩
    exact lawG_core KI hns hb hbb hlim hg ha hr F hbind hCX O (hsp _ O S) (fun b u z => nomatch z) (fun b z => absurd rfl z)
      fun z => absurd rfl z
  | none =>
    let H : Hp := fun b => if b = a then
      some (.frz { cls := .type "list", data := .seq vs.toArray } (.lst (ns.map V.int))) else none
    have at_ : H a = some (.frz { cls := .type "list", data := .seq vs.toArray } (.lst (ns.map V.int))) := if_pos rfl
    have off : ∀ {b}, b ≠ a → H b = none := fun h => if_neg h
    have O : Only H := fun b => by
      by_cases h : b = a
      · subst h
        exact Or.inr ⟨_, _, at_⟩
      · exact Or.inl (off h)
    have S : SqL K H a (ns.map V.int) := Or.inl (Or.inr ⟨_, at_⟩)
    refine lawG_core (H := H) KI hns hb hbb hlim hg ha hr F hbind hCX O (hsp _ O S) (fun b u z => ?_)
      (fun b z => Classical.byContradiction fun h => z (off h)) fun _ => hk
    by_cases h : b = a
    · subst h
      rw [at_] at z
      cases z
      exact ⟨ha, by rw [List.length_map]; exact hl, vs, _, rv, ha⟩
    · rw [off h] at z
      cases z
/-- what k_head leaves, by the law's promise under CG -/
theorem walk_ofG {l : PySem.W.OpenLaw} {n k : Nat} {q : Program} {loose : List Str} {XP : (Str → Option Value) → Heap → Prop}
    {YP : World → Heap → Prop} {d : DefRec} {K : Params → PySem.W.Frag} {CX : CXT} {sp : PySem.W.Frag → Sp} {x : Str}
    (hn : l.most = some n) (hn2 : n ≤ sizeLine) (hdf : d.params.defaults = []) (hr : Room k callerA)
    (hY : ∀ (w : World) (h : Heap), YP w h → (K w.params).In h)
    (F : ∀ (w : World) (mg : Str → Option Value) (fa : Addr) (h : Heap), (K w.params).In h → h.Ns mainGlobals mg →
      mg d.name = some (.ref fa) → ∃ fd : FuncData, (∀ (s : Shared) (u : Value), BindsTo s fd ⟨[u], []⟩ [(x, u)]) ∧
        ∀ base : Heap, (K w.params).In base → base.Ns mainGlobals mg →
          FnR l.prog w (K w.params) mg base CX (CG k) fa fd [x] (sp (K w.params)))
    (hsp : ∀ (K : PySem.W.Frag) (H : Hp) (a : Addr) (ns : List Int), ns.length ≤ n → Only H → SqL K H a (ns.map V.int) →
      sp K [.ref a] H (fun v _ => v = .bl true) fun _ _ _ => False)
    (hCX : ∀ (H : Hp) (s : Shared) (e : Value) (s' : Shared), CX [] H s (fun _ _ _ => False) e s' → False) :
    PySem.W.WalkO q loose XP YP l.row.toRowW d [] (fun f vs => PySem.call f vs) := by
  refine Att.attach_call hn hdf fun w s₀ s₁ mg mb fa o pm cd doc a vs ns G Y ho hd hcd hmg hobj hints hlen hg => ?_
  have KI := hY w _ Y
  obtain ⟨fd, hb, hF⟩ := F w mg fa _ KI G.T.g hmg
  exact law_callG KI G.T.g G.T.b G.T.builtins G.T.nolimit hg hobj hints (Nat.le_trans hlen hn2) hr hF hb
    (fun H hO hS => hsp (K w.params) H a ns hlen hO hS) fun H e s' => hCX H s₁ e s'
end KX

namespace KX
open PySem PySem.Spec PyProof.Rows L2
/-! calls by keywords alone -/
section
variable {X : Cx} {CX : CXT} {k : Nat} {f : Addr} {fd : FuncData} {ps ks : List Str} {sp : Sp} {E : XK} {x : Str} {p pos : Pos}
  {kws : List Keyword} {t tk : TA} {g : List Value → List Value → List Value} {gV : List V → List V → List V}
def tCallK (m : Nat) (sp : Sp) (gV : List V → List V → List V) (E : XK) (tk : TA) : TE := fun σ H Q =>
  tk σ H fun zs H2 => zs.length = m ∧ sp (gV [] zs) H2 Q E
theorem pe_callK (F : FnOk X.prog X.w X.K X.mg X.base CX k f fd ps sp) (hr : Room k X.A) (hg : Gl X x) (hm : X.mg x = some (.ref f))
    (hk : PySem.W.keepIn X.K (.ref f) = true) (hb : KBn X.K fd ps 0 ks g gV) (hx : Passes CX X E) (hkw : PK X kws tk)
    (hall : (backToKw pos (keywordEach kws X.env)).all (·.1.isSome) = true := by rfl)
    (hks : (backToKw pos (keywordEach kws X.env)).filterMap (·.1) = ks := by rfl)
    (hdb : (x == ("__debug__" : Str)) = false := by decide)
    (hpl : ((backTo pos (starEach [] X.env)).any (·.1) || (backToKw pos (keywordEach kws X.env)).any (·.1.isNone)) = false := by rfl) :
    PE X (.Call (.Name x p) [] kws pos) (tCallK ks.length sp gV E tk) := by
  refine ⟨fun pins s σ H Q I h => wpAny_Call_Name_kw (ld_glob I hg hm ?_ hdb)⟩
  refine PySem.W.callWith_KW0 (h₀ := X.base) I.ok.mod.kin hk hall (thn (hkw.run pos pins s σ H _ I h) fun ws s2 hh => ?_) hpl
  obtain ⟨zs, H2, I2, rz, l2, q2⟩ := hh
  refine ⟨I2.kIn, ?_⟩
  rw [hks]
  exact run_fnN (us := []) (vs := []) F hr hb hx I2 .nil rz rfl l2 q2
/-- two parameters by keywords, in the other order -/
theorem kb_swap {K : PySem.W.Frag} {fd : FuncData} {a b : Str}
    (h : ∀ u v : Value, bindArgs fd ⟨[], [(b, v), (a, u)]⟩ = pure [(a, u), (b, v)]) :
    KBn K fd [a, b] 0 [b, a] (fun _ ws => ws.reverse) (fun _ zs => zs.reverse) where
  to := fun s us ws _ h0 h2 => by
    match us, ws, h0, h2 with
    | [], [v, u], _, _ => exact .of_eq (h u v)
  rel := fun {vs us zs ws} _ r => by
    induction r with
    | nil => exact .nil
    | cons q _ ih =>
      rw [List.reverse_cons, List.reverse_cons]
      exact ih.append (.cons q .nil)
/-- two parameters by keywords, in their order -/
theorem kb_both {K : PySem.W.Frag} {fd : FuncData} {a b : Str}
    (h : ∀ u v : Value, bindArgs fd ⟨[], [(a, u), (b, v)]⟩ = pure [(a, u), (b, v)]) :
    KBn K fd [a, b] 0 [a, b] (fun _ ws => ws) (fun _ zs => zs) where
  to := fun s us ws _ h0 h2 => by
    match us, ws, h0, h2 with
    | [], [u, v], _, _ => exact .of_eq (h u v)
  rel := fun _ r => r
/-- the second one of two by keyword -/
theorem kb_second {K : PySem.W.Frag} {fd : FuncData} {a b : Str}
    (h : ∀ u v : Value, bindArgs fd ⟨[u], [(b, v)]⟩ = pure [(a, u), (b, v)]) :
    KBn K fd [a, b] 1 [b] (fun us ws => us ++ ws) (fun vs zs => vs ++ zs) where
  to := fun s us ws _ h0 h2 => by
    match us, ws, h0, h2 with
    | [u], [v], _, _ => exact .of_eq (h u v)
  rel := fun r1 r2 => r1.append r2
end
/-! // by any number that is not 0 -/
def CDivA (_ j : Int) : Prop := j ≠ 0 ∧ j.natAbs.log2 < 9000
theorem op_fdivA {X : Cx} : OpR X (binaryOp .FloorDiv) (rI CDivA fun i j => .int (i.fdiv j)) := opI fun i j _ _ _ _ _ hc q =>
  floordiv_int hc.1 q (.inl (PyProof.noPylong_of_log2 hc.2))
/-! which values are integers -/
inductive Kin (K : PySem.W.Frag) (H : Hp) : V → Option Int → Prop
  | int (i : Int) : Kin K H (.int i) (some i)
  | oth {x : V} {n : String} {b1 b2 : Bool} (t : TyX K H x (.type n)) (h1 : kitB n "int" = some b1) (h2 : kitB n "bool" = some b2)
      (h : (b1 && !b2) = false) : Kin K H x none
theorem Kin.ty {K : PySem.W.Frag} {H : Hp} {x : V} {o : Option Int} (k : Kin K H x o) :
    ∃ n b1 b2, TyX K H x (.type n) ∧ kitB n "int" = some b1 ∧ kitB n "bool" = some b2 ∧ (b1 && !b2) = o.isSome := by
  cases k with
  | int i => exact ⟨"int", true, false, .base (.int i), by decide +kernel, by decide +kernel, rfl⟩
  | oth t h1 h2 h => exact ⟨_, _, _, t, h1, h2, h⟩
end KX

namespace KX
open PySem PySem.Spec PyProof.Rows L2
section
variable {X : Cx} {C fI : Addr} {en qn : Str}
theorem pmk_errZ {a : Expr} {ta : TA} {p pos : Pos} {k : Nat} (T : PySem.ErrX.ErrTxt X.K X.mg en qn C fI) (hr : Room k X.A) (ha : PA X [a] ta) (hg : Gl X en := by rfl) (hdb : (en == ("__debug__" : Str)) = false := by decide)
    (he : starEach (a :: []) X.env = (false, eval a X.env) :: starEach [] X.env := by rfl) (hpl : (backTo pos (starEach [] X.env)).any (·.1) = false := by rfl) :
    L2.PMk X (.Call (.Name en p) [a] [] pos) (tMkErr C ta) := fun pins s σ H Q I h => by
  refine wpAny_mono (pmk_err T hr ha hg hdb he hpl pins s σ H Q I h) (fun u s' hu => ?_) fun _ _ x => x
  obtain ⟨a, oe, vs, sI, H', cls, d, h1, h2, h3, h4, h5, hz, h6⟩ := hu
  exact ⟨a, oe, vs, sI, H', cls, d, h1, h2, h3, h4, h5, hz.zc, h6⟩
theorem ps_raiseErrZ {a : Expr} {ta : TA} {W : WX} {p pos pos2 : Pos} {k : Nat} (hc : X.calm = true) (T : PySem.ErrX.ErrTxt X.K X.mg en qn C fI) (hr : Room k X.A) (tk : L2.Takes X W) (ha : PA X [a] ta) (hg : Gl X en := by rfl) (hdb : (en == ("__debug__" : Str)) = false := by decide)
    (he : starEach (a :: []) X.env = (false, eval a X.env) :: starEach [] X.env := by rfl) (hpl : (backTo pos (starEach [] X.env)).any (·.1) = false := by rfl) :
    PS X (.Raise (some (.Call (.Name en p) [a] [] pos)) none pos2) (tRaiseErr C W ta) := L2.ps_raise hc tk (pmk_errZ T hr ha hg hdb he hpl)
end
end KX

namespace KX
open PySem PySem.Spec PyProof.Rows L2 L2H LamX
/-! the law's own call under CG, with one table of code objects -/
section
variable {P : Program} {w : World} {K : PySem.W.Frag} {mg mb : Str → Option Value} {CX : CXT} {k : Nat} {fa a c t : Addr}
  {fd : FuncData} {x : Str} {sp : Sp} {s₁ : Shared} {vs : List Value}
/-- only the script and the table are tracked -/
structure OnlyT (H : Hp) (a t : Addr) : Prop where
  tab : H t = some (.tbl #[])
  who : ∀ b, H b ≠ none → b = a ∨ b = t
  frz : ∀ u, H a = some u → ∃ o xs, u = .frz o (.lst xs)
theorem OnlyT.off {H : Hp} {b : Addr} (O : OnlyT H a t) (h1 : b ≠ a) (h2 : b ≠ t) : H b = none :=
  Classical.byContradiction fun z => (O.who b z).elim h1 h2
theorem lawT_core {H : Hp}
    (KI : K.In s₁.heap) (hns : s₁.heap.Ns mainGlobals mg) (hb : s₁.heap.Ns builtinsNs mb)
    (hbb : ∀ x : Str, x ≠ "__name__" → mb x = bootBuiltins x) (hlim : s₁.heap.NoLimit) (hg : s₁.gens = #[])
    (ht : s₁.heap.get? t = some { cls := .none, data := .fields #[] }) (nt : K.lookup t = none) (C : PySem.W.CodeHd s₁.heap c t)
    (hbm : ∃ (bm : Addr) (ob : Obj), mg "__builtins__" = some (.ref bm) ∧ bm ≠ builtinsNs ∧ s₁.heap.get? bm = some ob ∧ ob.cls = .type "module" ∧ ob.dict = some builtinsNs ∧ ob.data = .plain)
    (ha : s₁.heap.get? a = some { cls := .type "list", data := .seq vs.toArray }) (hr : Room k callerA)
    (F : ∀ base : Heap, K.In base → base.Ns mainGlobals mg → TabB base mg c t → FnR P w K mg base CX (CG k) fa fd [x] sp)
    (hbind : ∀ (s : Shared) (u : Value), BindsTo s fd ⟨[u], []⟩ [(x, u)])
    (hCX : ∀ H e s', CX [] H s₁ (fun _ _ _ => False) e s' → False)
    (O : OnlyT H a t) (hS : sp [.ref a] H (fun v _ => v = .bl true) fun _ _ _ => False) (hok : HOk P w H s₁.heap)
    (hK : H a ≠ none → K.lookup a = none) :
    codeAny (model P w) callerA (.call (.ref fa) ⟨[.ref a], []⟩)
      (fun r s' => r = .ok (.ret (.bool true)) ∧ OldK s₁.heap s'.heap ∧ s'.os = s₁.os ∧ AllBare s'.gens) s₁ := by
  have sees : ∀ {b : Addr} {o : Obj}, s₁.heap.get? b = some o → (∀ vs n, o.data ≠ .seq vs n) → o.data ≠ .fields #[] →
      (hidT s₁.heap H).get? b = some o := fun {b o} e h1 h2 => hidT_get e (O.off (fun z => by
        subst z
        rw [ha] at e
        cases e
        exact h1 _ _ rfl) fun z => by
        subst z
        rw [ht] at e
        cases e
        exact h2 rfl)
  have nsH : ∀ {b : Addr} {m : Str → Option Value}, s₁.heap.Ns b m → (hidT s₁.heap H).Ns b m := fun {b m} n => by
    obtain ⟨o, es, ep, e, d, r⟩ := n
    exact ⟨o, es, ep, sees e (fun vs n z => by rw [d] at z; cases z) (fun z => by rw [d] at z; cases z), d, r⟩
  have KB : K.In (hidT s₁.heap H) := fun b o e => hidT_get (KI b o e) (Classical.byContradiction fun z => by
    rcases O.who b z with h | h
    · subst h
      rw [hK z] at e
      cases e
    · subst h
      rw [nt] at e
      cases e)
  have MB : Mod K mg (hidT s₁.heap H) := by
    obtain ⟨mc, h1, h2⟩ := hlim
    exact ⟨KB, nsH hns, ⟨mb, nsH hb, hbb⟩, ⟨mc, nsH h1, h2⟩⟩
  have TB : TabB (hidT s₁.heap H) mg c t := by
    refine ⟨?_, ?_, fun z => ?_⟩
    · obtain ⟨o, us, file, tf, flags, tg, inF, text, tt, e1, r1, r2, r3, rest⟩ := C
      refine ⟨o, us, file, tf, flags, tg, inF, text, tt, sees e1 (fun vs n z => ?_) (fun z => ?_), r1, r2, r3, rest⟩
      · rw [r2] at z
        cases z
      · rw [r2] at z
        cases z
        simp at r3
    · obtain ⟨bm, ob, b1, b2, b3, b4, b5, b6⟩ := hbm
      refine ⟨bm, ob, b1, b2, fun q => ?_, fun q => ?_, sees b3 (fun vs n z => by rw [b6] at z; cases z) (fun z => by rw [b6] at z; cases z), b4, b5, b6⟩
      · obtain ⟨o, es, ep, e, hd, _⟩ := hns
        rw [q, e] at b3
        cases b3
        rw [hd] at b6
        cases b6
      · rw [q, ht] at b3
        cases b3
        cases b6
    · obtain ⟨o, es, ep, e, hd, _⟩ := hns
      rw [z, ht] at e
      cases e
      cases hd
  have e0 : Env0 P w K mg (hidT s₁.heap H) callerA [] s₁ H :=
    ⟨rfl, MB, fun b o e => of_hidT e, Nat.le_of_eq (hidT_size _ _), trivial,
      fun b hb => absurd (show b ∈ ([] : List Addr) from hb) (by simp), hok, .of_eq hg⟩
  refine codeAny_mono ((F _ KB (nsH hns) TB).does callerA [] s₁ H ⟨[.ref a], []⟩ [.ref a] [.ref a] _ _ ⟨hr, rfl⟩ e0
    (hbind s₁ (.ref a)) (.cons rfl .nil) hS) fun r s' h => ?_
  match r, h with
  | .error e, h => exact (hCX H e s' h).elim
  | .ok (.ret u), h =>
    obtain ⟨v, H', os, bare, un, hok', r', q⟩ := h
    have q' : v = .bl true := q
    subst q'
    obtain rfl : u = Value.bool true := r'
    obtain ⟨more, hm⟩ : ∃ more : Array Value, s'.heap.get? t = some { cls := .none, data := .fields more } := by
      obtain ⟨more, z⟩ := un.tbls t #[] O.tab
      exact ⟨_, hok' t _ z⟩
    have other : ∀ b o, b ≠ t → s₁.heap.get? b = some o → s'.heap.get? b = some o := fun b o nb e => by
      cases q : H b with
      | none => exact un.keep b o e q (by intro z; exact absurd (show b ∈ ([] : List Addr) from z) (by simp)) (by simp)
      | some u =>
        have eb : b = a := (O.who b (by rw [q]; exact fun z => nomatch z)).resolve_right nb
        subst eb
        obtain ⟨ob, xs, rfl⟩ := O.frz _ q
        have e1 := (hok b _ q).1
        have e2 := (hok' b _ (un.frzs b ob _ q)).1
        rw [e] at e1
        cases e1
        exact e2
    refine ⟨rfl, ⟨fun b o e => ?_, fun b o e => ?_⟩, os, bare⟩
    · by_cases h : b = t
      · subst h
        rw [ht] at e
        cases e
        exact .inr (.inl ⟨(C.tab ht).isCodeTable, rfl, #[], more, rfl, by rw [Array.empty_append]; exact hm⟩)
      · exact .inl (other b o h e)
    · by_cases h : b = t
      · subst h
        exact ⟨_, hm⟩
      · exact ⟨o, other b o h e⟩
theorem law_callT {ns : List Int}
    (KI : K.In s₁.heap) (hns : s₁.heap.Ns mainGlobals mg) (hb : s₁.heap.Ns builtinsNs mb)
    (hbb : ∀ x : Str, x ≠ "__name__" → mb x = bootBuiltins x) (hlim : s₁.heap.NoLimit) (hg : s₁.gens = #[])
    (ht : s₁.heap.get? t = some { cls := .none, data := .fields #[] }) (nt : K.lookup t = none) (C : PySem.W.CodeHd s₁.heap c t)
    (hbm : ∃ (bm : Addr) (ob : Obj), mg "__builtins__" = some (.ref bm) ∧ bm ≠ builtinsNs ∧ s₁.heap.get? bm = some ob ∧ ob.cls = .type "module" ∧ ob.dict = some builtinsNs ∧ ob.data = .plain)
    (ha : s₁.heap.get? a = some { cls := .type "list", data := .seq vs.toArray }) (hi : IntsAre vs ns) (hl : ns.length ≤ sizeLine) (hr : Room k callerA)
    (F : ∀ base : Heap, K.In base → base.Ns mainGlobals mg → TabB base mg c t → FnR P w K mg base CX (CG k) fa fd [x] sp)
    (hbind : ∀ (s : Shared) (u : Value), BindsTo s fd ⟨[u], []⟩ [(x, u)])
    (hsp : ∀ H : Hp, H t = some (.tbl #[]) → SqL K H a (ns.map V.int) → sp [.ref a] H (fun v _ => v = .bl true) fun _ _ _ => False)
    (hCX : ∀ H e s', CX [] H s₁ (fun _ _ _ => False) e s' → False) :
    codeAny (model P w) callerA (.call (.ref fa) ⟨[.ref a], []⟩)
      (fun r s' => r = .ok (.ret (.bool true)) ∧ OldK s₁.heap s'.heap ∧ s'.os = s₁.os ∧ AllBare s'.gens) s₁ := by
  have rv := vals_ints hi
  have nat : a ≠ t := fun z => by
    rw [z, ht] at ha
    cases ha
  cases hk : K.lookup a with
  | some o =>
    have e := KI a o hk
    rw [ha] at e
    cases e
    let H : Hp := fun b => if b = t then some (.tbl #[]) else none
    have atT : H t = some (.tbl #[]) := if_pos rfl
    have off : ∀ {b}, b ≠ t → H b = none := fun h => if_neg h
    have S : SqL K H a (ns.map V.int) :=
      Or.inr ⟨_, vs.toArray, _, hk, rfl, rfl, rfl, by rw [List.size_toArray, hi.length]; exact hl, by simpa using rv⟩
    have O : OnlyT H a t := ⟨atT, fun b z => Or.inr (Classical.byContradiction fun h => z (off h)), fun u z => by rw [off nat] at z; cases z⟩
    refine lawT_core KI hns hb hbb hlim hg ht nt C hbm ha hr F hbind hCX O (hsp _ atT S) (fun b u z => ?_) fun z => absurd (off nat) z
    by_cases h : b = t
    · subst h
      rw [atT] at z
      cases z
      exact ht
    · rw [off h] at z
      cases z
  | none =>
    let H : Hp := fun b => if b = a then some (.frz { cls := .type "list", data := .seq vs.toArray } (.lst (ns.map V.int))) else if b = t then some (.tbl #[]) else none
    have atA : H a = some (.frz { cls := .type "list", data := .seq vs.toArray } (.lst (ns.map V.int))) := if_pos rfl
    have atT : H t = some (.tbl #[]) := (if_neg (Ne.symm nat)).trans (if_pos rfl)
    have off : ∀ {b}, b ≠ a → b ≠ t → H b = none := fun h h' => (if_neg h).trans (if_neg h')
    have S : SqL K H a (ns.map V.int) := Or.inl (Or.inr ⟨_, atA⟩)
    have O : OnlyT H a t := ⟨atT, fun b z => by
      by_cases h : b = a
      · exact Or.inl h
      · exact Or.inr (Classical.byContradiction fun h' => z (off h h')), fun u z => by rw [atA] at z; cases z; exact ⟨_, _, rfl⟩⟩
    refine lawT_core KI hns hb hbb hlim hg ht nt C hbm ha hr F hbind hCX O (hsp _ atT S) (fun b u z => ?_) fun _ => hk
    by_cases h : b = a
    · subst h
      rw [atA] at z
      cases z
      exact ⟨ha, by rw [List.length_map]; exact hl, vs, _, rv, ha⟩
    · by_cases h' : b = t
      · subst h'
        rw [atT] at z
        cases z
        exact ht
      · rw [off h h'] at z
        cases z
end
/-- what k_head leaves, by the law's promise under CG; t: the table of the law's code object -/
theorem walk_ofT {l : PySem.W.OpenLaw} {n k : Nat} {q : Program} {loose : List Str} {XP : (Str → Option Value) → Heap → Prop}
    {YP : World → Heap → Prop} {d : DefRec} {K : Params → PySem.W.Frag} {CX : CXT} {x : Str} {c t : Addr} {sp : PySem.W.Frag → Sp}
    (hn : l.most = some n) (hn2 : n ≤ sizeLine) (hdf : d.params.defaults = []) (hr : Room k callerA)
    (hY : ∀ (w : World) (h : Heap), YP w h → (K w.params).In h)
    (hT : ∀ (w : World) (h : Heap), YP w h → h.get? t = some { cls := .none, data := .fields #[] })
    (hcd : ∀ w : World, PySem.W.codeHdIn (K w.params) c t = true) (nt : ∀ w : World, (K w.params).lookup t = none)
    (F : ∀ (w : World) (mg : Str → Option Value) (fa : Addr) (h : Heap), (K w.params).In h → h.Ns mainGlobals mg →
      mg d.name = some (.ref fa) → ∃ fd : FuncData, (∀ (s : Shared) (u : Value), BindsTo s fd ⟨[u], []⟩ [(x, u)]) ∧
        ∀ base : Heap, (K w.params).In base → base.Ns mainGlobals mg → TabB base mg c t →
          FnR l.prog w (K w.params) mg base CX (CG k) fa fd [x] (sp (K w.params)))
    (hsp : ∀ (K : PySem.W.Frag) (H : Hp) (a : Addr) (ns : List Int), ns.length ≤ n → H t = some (.tbl #[]) → SqL K H a (ns.map V.int) →
      sp K [.ref a] H (fun v _ => v = .bl true) fun _ _ _ => False)
    (hCX : ∀ (H : Hp) (s : Shared) (e : Value) (s' : Shared), CX [] H s (fun _ _ _ => False) e s' → False) :
    PySem.W.WalkO q loose XP YP l.row.toRowW d [] (fun f vs => PySem.call f vs) := by
  refine Att.attach_call hn hdf fun w s₀ s₁ mg mb fa o pm cd doc a vs ns G Y ho hd hcd' hmg hobj hints hlen hg => ?_
  have KI := hY w _ Y
  obtain ⟨fd, hb, hF⟩ := F w mg fa _ KI G.T.g hmg
  exact law_callT KI G.T.g G.T.b G.T.builtins G.T.nolimit hg (hT w _ Y) (nt w) (PySem.W.codeHd_of_K KI (hcd w)) G.T.bmain hobj hints (Nat.le_trans hlen hn2) hr hF hb
    (fun H hH hS => hsp (K w.params) H a ns hlen hH hS) fun H e s' => hCX H s₁ e s'
end KX

namespace KX
open PySem PySem.Spec PyProof.Rows L2
/-! lists or tuples walked -/
theorem PI.or {X : Cx} {tg l : Expr} {w1 w2 : TI} (h1 : PI X tg l w1) (h2 : PI X tg l w2) :
    PI X tg l (fun σ H R => w1 σ H R ∨ w2 σ H R) :=
  ⟨fun pins s σ H R I h => h.elim (h1.run pins s σ H R I) (h2.run pins s σ H R I)⟩
theorem CallR.or {X : Cx} {f : Value} {r1 r2 : List V → Hp → VK → Prop} (h1 : CallR X f r1) (h2 : CallR X f r2) :
    CallR X f (fun xs H Q => r1 xs H Q ∨ r2 xs H Q) :=
  fun pins s σ H xs us Q I r h => h.elim (h1 pins s σ H xs us Q I r) (h2 pins s σ H xs us Q I r)
/-! sorted of a tuple of ints -/
section
variable {prog : Program} {w : World} {A : Around} {s : Shared} {E : Value → Shared → Prop}
theorem collect_tup {l : Addr} {vs : List Value} {n : Nat} {dd : Option Addr} {sl : Array (Option Value)}
    {Q : List Value → Shared → Prop}
    (hl : s.heap.get? l = some ⟨.type "tuple", dd, .seq vs.toArray n, sl⟩) (hz : vs.length ≤ sizeLine)
    (h : Q vs { s with heap := ((s.heap.push (seqObj "list" #[] 0)).update
      s.heap.objs.size (Obj.mapSeq (· ++ vs.toArray))) }) :
    wpAny (model prog w) A (collect (.ref l)) Q E s := by
  unfold collect
  apply wpAny_bind
  apply wpAny_runValue
  refine codeAny_builtin
    entry_proto_collect' ?_
  show wpAny _ _ (do
    again (.builtin "list.__iadd__" ⟨[← newList [], .ref l], []⟩)) _ _ s
  apply wpAny_bind
  refine wpAny_newList
    (wpAny_pure ⟨Code.quiet_builtin _ (by decide +kernel), ?_⟩)
  refine codeAny_builtin
    entry_list_iadd' ?_
  show wpAny _ _
    (Builtin.List.listExtendWith (.ref s.heap.objs.size) (.ref l) (.ref s.heap.objs.size)) _ _
    { s with heap := s.heap.push (seqObj "list" #[] 0) }
  unfold Builtin.List.listExtendWith
  have hl' : (s.heap.push (seqObj "list" #[] 0)).get? l = some ⟨.type "tuple", dd, .seq vs.toArray n, sl⟩ :=
    Heap.get?_push_of_some _ hl
  apply wpAny_bind
  refine wpAny_typeOf (T := "tuple")
    ⟨_, hl', rfl⟩ ?_
  have ht : (Value.type "tuple" == Value.type "tuple") = true := by rfl
  rw [if_pos (by rw [ht]; simp)]
  apply wpAny_bind
  refine listItems_at hl' rfl ?_
  apply wpAny_bind
  have hn : (s.heap.push (seqObj "list" #[] 0)).get? s.heap.objs.size = some (seqObj "list" #[] 0) :=
    Heap.get?_push_size _ rfl
  refine listItems_at (xs := #[]) (n := 0) hn rfl ?_
  rw [if_neg (by simp)]
  apply wpAny_bind
  refine listUpdate_at (xs := #[]) (n := 0) hn rfl ?_ (Nat.zero_le _)
    (by
      show (#[] ++ vs.toArray).size ≤ sizeLine + 1
      simp only [Array.size_append, List.size_toArray, List.length_nil]
      omega)
  apply wpAny_pure
  show wpAny (model prog w) A (do
      match (← load s.heap.objs.size).data with
      | .seq xs _ => pure xs.toList
      | _ => unsupported "internal:collect") Q E
    { s with heap := ((s.heap.push (seqObj "list" #[] 0)).update
      s.heap.objs.size (Obj.mapSeq (· ++ vs.toArray))) }
  apply wpAny_bind
  refine wpAny_load (get?_update_seq hn _) ?_
  show wpAny _ _ (pure ((#[] : Array Value) ++ vs.toArray).toList) Q E _
  have e : ((#[] : Array Value) ++ vs.toArray).toList = vs := by simp
  rw [e]
  exact wpAny_pure h
theorem sorted_tup {l : Addr} {vs : List Value} {ns : List Int} {n : Nat} {dd : Option Addr} {sl : Array (Option Value)}
    {Q : Value → Shared → Prop}
    (hl : s.heap.get? l = some ⟨.type "tuple", dd, .seq vs.toArray n, sl⟩) (hI : IntsAre vs ns) (h64 : vs.length < 64)
    (h : ∀ (out : Array Value) (ns' : List Int), IntsAre out.toList ns' → ns'.Perm ns → ns'.Pairwise (· ≤ ·) →
      Q (.ref (s.heap.objs.size + 1)) { s with heap := sortedAll s.heap vs out }) :
    wpAny (model prog w) A (call (.builtin "sorted") [.ref l]) Q E s := by
  refine Calls.call_function_entry
    kind_sorted plain_sorted entry_sorted (args_sorted1 _) ?_
  unfold Builtin.«sorted»
  refine wpAny_bind (m := checkCount "sorted" 1 1 _)
    (wpAny_pure ?_)
  apply wpAny_bind
  refine collect_tup hl (Nat.le_of_lt (Nat.lt_trans h64 (by decide))) ?_
  apply wpAny_bind
  refine wpAny_newList ?_ (hsz := Nat.le_of_lt (Nat.lt_trans h64 (by decide)))
  have hs2 : ((s.heap.push (seqObj "list" #[] 0)).update s.heap.objs.size
      (Obj.mapSeq (· ++ vs.toArray))).objs.size = s.heap.objs.size + 1 := by
    rw [Heap.size_update]
    exact Heap.size_push ..
  have ho : (((s.heap.push (seqObj "list" #[] 0)).update s.heap.objs.size
      (Obj.mapSeq (· ++ vs.toArray))).push (seqObj "list" vs.toArray 0)).get? (s.heap.objs.size + 1) =
      some (seqObj "list" vs.toArray 0) := by
    rw [← hs2]
    exact Heap.get?_push_size _ rfl
  show wpAny _ _ _ _ _
    { s with heap := (((s.heap.push (seqObj "list" #[] 0)).update s.heap.objs.size
      (Obj.mapSeq (· ++ vs.toArray))).push (seqObj "list" vs.toArray 0)) }
  rw [hs2]
  apply wpAny_bind
  apply wpAny_holding
  refine wpAny_call_entry slot_list_sort ⟨_, ho, rfl⟩ entry_list_sort ?_ (args_list_sort _)
  refine list_sort_tree ho hI h64 fun out ns' a1 a2 a3 => ⟨_, rfl, ?_⟩
  exact wpAny_pure ⟨_, rfl, h out ns' a1 a2 a3⟩
end
def rSortT (K : PySem.W.Frag) : List V → Hp → VK → Prop := fun vs H Q =>
  ∃ (a : Addr) (ns : List Int), vs = [V.ref a] ∧ SqT K H a (ns.map V.int) ∧ ns.length < 64 ∧
    ∀ (ns' : List Int) (p : Addr), ns'.Perm ns → ns'.Pairwise (· ≤ ·) → H p = none →
      Q (.ref p) (upd H p (.lst (ns'.map V.int)))
theorem cr_sortT {X : Cx} : CallR X (.builtin "sorted") (rSortT X.K) := by
  intro pins s σ H vs us Q I r h
  obtain ⟨a, ns, rfl, hs, h64, q⟩ := h
  obtain ⟨its, rv, ⟨⟨cls, dd, data, sl⟩, ho, hc, n, hd⟩, _⟩ := I.tuple hs
  simp only at hc hd
  subst hc hd
  rw [Vals.ref1 r]
  have hi := rv.ints
  refine sorted_tup ho hi (by rw [hi.length]; exact h64) fun out ns' h1 h2 h3 => ?_
  obtain ⟨ep, he⟩ := sortedAll_at s.heap its out
  have hlen : (ns'.map V.int).length ≤ sizeLine := by
    rw [List.length_map, h2.length_eq]
    exact Nat.le_of_lt (Nat.lt_trans h64 (by decide))
  refine ⟨.ref _, upd H (s.heap.objs.size + 1) (.lst (ns'.map V.int)), ?_, rfl,
    q ns' _ h2 h3 (I.hok.fresh (Nat.le_succ _))⟩
  exact I.laid (t' := s.toks) (fun _ _ => sortedAll_old) (Nat.le_succ _)
    ⟨hlen, out.toList, ep, vals_of_ints h1, he⟩
/-! t.count(k) of a tuple of ints -/
def rCntT (K : PySem.W.Frag) : V → List V → Hp → VK → Prop := fun x xs H Q =>
  ∃ (p : Addr) (ns : List Int) (k : Int), x = .ref p ∧ xs = [.int k] ∧ SqT K H p (ns.map V.int) ∧
    Q (.int (ns.count k : Nat)) H
theorem mt_tcount {X : Cx} : MtR X "tuple.count" (rCntT X.K) := by
  intro pins s σ H x xs v us Q I rx rxs h
  obtain ⟨p, ns, k, rfl, rfl, hs, q⟩ := h
  cases rx
  obtain ⟨u, rfl, ru⟩ := rxs.one
  obtain ⟨t, rfl⟩ := ru
  obtain ⟨its, rv, ⟨⟨cls, dd, data, sl⟩, ho, hc, n, hd⟩, _⟩ := I.tuple hs
  simp only at hc hd
  subst hc hd
  have hi := ints_of_vals rv
  refine call_meets PySem.F.slot_tuple_count ⟨_, ho, rfl⟩ PySem.F.entry_tuple_count
    (PySem.F.args_tuple_count_2 _ _) (SeqAt.tuple_countAt p its.toArray n dd sl (.int k t) (eqk k)) ⟨ho, ?_, ?_⟩
  · exact fun y hy => (eqk_gives hi y (by simpa using hy)).at _ _
  · have ec : its.toArray.toList.countP (eqk k) = ns.count k := eqk_count hi
    refine ⟨.int (ns.count k : Nat), H, I.tok _, ⟨s.toks, ?_⟩, q⟩
    show Value.int ((its.toArray.toList.countP (eqk k) : Nat) : Int) s.toks = _
    rw [ec]
end KX

namespace KX
open PySem PySem.Spec PyProof.Rows L2
/-! a tuple, frozen or not -/
abbrev Tup (H : Hp) (a : Addr) (xs : List V) : Prop := Rd H a (.tup xs)
theorem Tup.of {H : Hp} {a : Addr} {xs : List V} (h : H a = some (.tup xs)) : Tup H a xs := Or.inl h
theorem Tup.sq {K : PySem.W.Frag} {H : Hp} {a : Addr} {xs : List V} (h : Tup H a xs) : SqT K H a xs := Or.inl h
theorem Tup.ty {K : PySem.W.Frag} {H : Hp} {a : Addr} {xs : List V} (h : Tup H a xs) : TyX K H (.ref a) (.type "tuple") := by
  rcases h with h | ⟨o, h⟩
  · exact .base (.tup h)
  · exact .fTuple h
theorem Tup.same {H H' : Hp} {a : Addr} {xs : List V} (h : Tup H a xs) (s : Same H H') : Tup H' a xs := by
  rcases h with h | ⟨o, h⟩
  · exact Or.inl (s _ _ h)
  · exact Or.inr ⟨o, s _ _ h⟩
/-- a tuple whose object is known: without a dict -/
def TupF (H : Hp) (a : Addr) (xs : List V) : Prop := ∃ o : Obj, H a = some (.frz o (.tup xs)) ∧ o.cls = .type "tuple" ∧ o.dict = none
theorem TupF.tup {H : Hp} {a : Addr} {xs : List V} (h : TupF H a xs) : Tup H a xs := by
  obtain ⟨o, h, _⟩ := h
  exact Or.inr ⟨o, h⟩
theorem TupF.same {H H' : Hp} {a : Addr} {xs : List V} (h : TupF H a xs) (s : Same H H') : TupF H' a xs := by
  obtain ⟨o, h, z⟩ := h
  exact ⟨o, s _ _ h, z⟩
section
variable {X : Cx}
/-- tuple(l), l a list: the new tuple's object is known -/
def kTupF (K : PySem.W.Frag) (x : V) (H : Hp) (Q : VK) : Prop := ∃ p xs, x = .ref p ∧ SqL K H p xs ∧
  ∀ q (o : Obj), H q = none → o.cls = .type "tuple" → o.dict = none → Q (.ref q) (upd H q (.frz o (.tup xs)))
theorem pe_tupleF {a : Expr} {ta : TE} {p pos : Pos} (hg : Gl X "tuple") (hm : X.mg "tuple" = none) (ha : PE X a ta)
    (na : starEach [a] X.env = (false, eval a X.env) :: starEach [] X.env := by rfl) :
    PE X (.Call (.Name "tuple" p) [a] [] pos) (tThen ta (kTupF X.K)) := by
  refine ⟨fun pins s σ H Q I h => Call_ (ld_blt I hg hm boot_tuple (PyProof.Rows.callWith_type1 (one_arg ha I h (fun v s2 x H2 I2 r q => ?_) na) na))⟩
  obtain ⟨l, xs, rfl, hs, hq⟩ := q
  obtain rfl : v = .ref l := r
  obtain ⟨its, rv, pl, hz⟩ := I2.list hs
  have hsz : its.toArray.size ≤ sizeLine := by
    rw [List.size_toArray, ← rv.length]
    exact hz
  refine call_tuple_list pl.isList (fun h' hk => ?_) hsz
  have J : Inv X pins σ H2 { s2 with heap := h' } := I2.kept (t' := s2.toks) hk
  have nq : H2 h'.objs.size = none := J.hok.fresh (Nat.le_refl _)
  refine ⟨.ref h'.objs.size, _, J.laid (t' := s2.toks) (fun b o e => Heap.get?_push_of_some _ e) (Nat.le_refl _) ?_, rfl,
    hq h'.objs.size { cls := .type "tuple", data := .seq its.toArray } nq rfl rfl⟩
  exact ⟨Heap.get?_push_size _ rfl, hz, its, rv, IsTup.new _ _⟩
/-- a method of such a tuple, called -/
def tBMF (r : V → List V → Hp → VK → Prop) (to : TE) (t : TA) : TE := fun σ H Q =>
  to σ H fun x H1 => (∃ a xs, x = .ref a ∧ TupF H1 a xs) ∧ t σ H1 fun ys H2 => r x ys H2 Q
theorem pe_bmF {o e : Expr} {to : TE} {t : TA} {name : Str} {apos cpos : Pos} {id : String} {r : V → List V → Hp → VK → Prop}
    (slot : Slot "tuple" name id) (hty : typeOf (.builtin id) = pure (.type "method_descriptor")) (hm : MtR X id r) (ho : PE X o to) (ha : PA X [e] t)
    (hbase : attributeBase o name X.env (eval o X.env) = eval o X.env := by rfl)
    (hfew : ((backTo cpos (starEach [e] X.env)).all (fun x => !x.1) && (backToKw cpos (keywordEach [] X.env)).all (fun x => x.1.isSome)
      && decide ([e].length + ([] : List Keyword).length + (if ([] : List Keyword).isEmpty then 0 else 1) < 30)) = true := by rfl)
    (hline : (apos.endLine == cpos.line) = true := by rfl)
    (hs : starEach [e] X.env = (false, eval e X.env) :: starEach [] X.env := by rfl) (hplain : (backTo cpos (starEach [] X.env)).any (·.1) = false := by rfl) :
    PE X (.Call (.Attribute o name apos) [e] [] cpos) (tBMF r to t) := by
  constructor
  intro pins s σ H Q I h
  refine wpAny_Call_method_late hbase hfew hline rfl (thn (ho.run pins s σ H _ I h) fun v s1 hh => ?_)
  obtain ⟨x, H1, I1, r1, ⟨a, xs, rfl, ob, hob, hc, hd⟩, q1⟩ := hh
  obtain rfl : v = .ref a := r1
  have hget : s1.heap.get? a = some ob := (I1.hok a _ hob).1
  refine ⟨"tuple", id, PySem.F.plainAttrs_tuple, slot, hty, ⟨ob, hget, hc⟩, fun b z => by cases z; exact ⟨ob, hget, hd⟩, ?_⟩
  have hA := ha.run cpos pins s1 σ H1 _ I1 q1
  rw [hs] at hA ⊢
  refine Calls.callWith_builtin (by
    show (false || (backTo cpos (starEach [] X.env)).any (·.1)) = false
    rw [hplain] <;> rfl) (Calls.evalArgs_plain ?_)
  refine thn hA fun us s2 hz => ?_
  obtain ⟨vs, H2, I2, r2, q2⟩ := hz
  exact hm pins s2 σ H2 (.ref a) vs (.ref a) us Q I2 rfl r2 q2
end
end KX

namespace KX
open PySem PySem.Spec PyProof.Rows L2
/-! t + u and t[lo:hi] of tuples, by what they hold -/
theorem Same.fresh {H : Hp} {a : Addr} {o : HO} (n : H a = none) : Same H (upd H a o) := fun b u h => by
  rw [upd_ne (fun z => by rw [z, n] at h; cases h)]
  exact h
def rCatW : R2 := fun x y H Q => ∃ a b xs ys, x = .ref a ∧ y = .ref b ∧ Tup H a xs ∧ Tup H b ys ∧ xs.length + ys.length ≤ sizeLine ∧
  ∀ H' p, Same H H' → Tup H' p (xs ++ ys) → Q (.ref p) H'
theorem op_catW {X : Cx} : OpR X (binaryOp .Add) rCatW := by
  intro pins s σ H x y v u Q I rx ry h
  obtain ⟨a, b, xs, ys, e1, e2, ha, hb, hz, q⟩ := h
  refine op_catA pins s σ H x y v u Q I rx ry ⟨a, b, xs, ys, e1, e2, ha.sq, hb.sq, hz, fun e => ?_, fun _ e => ?_, fun _ _ p hp => ?_⟩
  · subst e
    exact q H b (Same.refl H) hb
  · subst e
    exact q H a (Same.refl H) (by rw [List.append_nil]; exact ha)
  · exact q _ p (Same.fresh hp) (Tup.of upd_same)
def rSlW : V → Option Int → Option Int → Hp → VK → Prop := fun x lo hi H Q => ∃ a xs, x = .ref a ∧ Tup H a xs ∧
  ∀ H' p, Same H H' → Tup H' p (cutV xs lo hi) → Q (.ref p) H'
theorem sl_tupW {X : Cx} : SlR X rSlW := by
  intro pins s σ H x v vl vu lo hi sl Q I rx hs pl pu h
  obtain ⟨a, xs, e1, ha, q⟩ := h
  refine sl_tupA pins s σ H x v vl vu lo hi sl Q I rx hs pl pu ⟨a, xs, e1, ha.sq, fun e => ?_, fun _ p hp => q _ p (Same.fresh hp) (Tup.of upd_same)⟩
  refine q H a (Same.refl H) ?_
  have z : cutV xs lo hi = xs := by
    unfold cutV
    rw [e.1, e.2]
    simp
  rw [z]
  exact ha
theorem cut_take (xs : List V) {i : Int} (h0 : 0 ≤ i) (h1 : i ≤ xs.length) : cutV xs none (some i) = xs.take i.toNat := by
  obtain ⟨n, rfl⟩ := Int.eq_ofNat_of_zero_le h0
  unfold cutV
  rw [HT.sIx_none, HT.sIx_nat]
  have : min n xs.length = n := by omega
  rw [this]
  simp
theorem cut_drop (xs : List V) {i : Int} (h0 : 0 ≤ i) (h1 : i ≤ xs.length) : cutV xs (some i) none = xs.drop i.toNat := by
  obtain ⟨n, rfl⟩ := Int.eq_ofNat_of_zero_le h0
  unfold cutV
  rw [HT.sIx_none, HT.sIx_nat]
  have : min n xs.length = n := by omega
  rw [this]
  have e : (xs.drop n).take (xs.length - n) = xs.drop n := List.take_of_length_le (by simp)
  simpa using e
end KX

namespace KX
open PySem PySem.Spec PyProof.Rows L2
/-! own == and != of instances, the other side of any class that is not below -/
theorem slot_objNe : Slot "object" "__ne__" "object.__ne__" :=
  Slot.of (T := "object") (name := "__ne__") (owner := "object") (n := "__ne__") (by rw [typeLookup_type, builtinLookup_eq_fast]; kernel_rfl) (by decide +kernel) (by decide +kernel) (by decide +kernel)
    (.inl (by decide +kernel)) (by rw [isSubtype_type]; kernel_rfl)
section
variable {prog : Program} {w : World} {A : Around} {E : Value → Shared → Prop} {s : Shared} {K : PySem.W.Frag} {x C L f : Addr} {ox : Obj} {od : Option Obj} {b tb : Value}
theorem objNe_K (X : K.In s.heap) (I : PySem.W.InstAt s.heap x ox C od) (hu : A.units < cLine) (hs : PySem.W.findIn K (.ref C) "__eq__" = some (some (.ref f))) (hf : PySem.W.isFn K (.ref f) = true) {Q : Fin → Shared → Prop}
    (hcall : wpAny (model prog w) A (call (.ref f) [.ref x, b]) (fun v s' => ∃ c, v = .bool c ∧ Q (.done (.ret (.bool (!c)))) s') E s) :
    wpAny (model prog w) A (Builtin.«object.__ne__» ⟨[.ref x, b], []⟩) Q E s := by
  unfold Builtin.«object.__ne__»
  repeat (first
    | with_reducible refine wpAny_cRoomFor hu ?_
    | (refine wpAny_bind (m := callSpecialIfBound? (.ref x) (Str.ofString "__eq__") [b])
        (PySem.W.ifBound_K X I hs hf (wpAny_mono hcall (fun r s' hr => by
          obtain ⟨c, rfl, hq⟩ := hr
          repeat (first | exact hq | exact wpAny_pure hq | exact wpAny_truthy_bool hq | (refine wpAny_bind (m := truthy (.bool _)) (wpAny_truthy_bool ?_)) | wp_step)) fun _ _ e => e)))
    | wp_step)
theorem ne_K {Q : Value → Shared → Prop} (hu : A.units + 1 < cLine) (X : K.In s.heap) (I : PySem.W.InstAt s.heap x ox C od) (hb : PySem.W.Looks (model prog w) s.heap (typeOf b) tb) (hn : PySem.W.notFirst K C tb = true)
    (hne : PySem.W.findIn K (.ref C) "__ne__" = some (some (.builtin "object.__ne__"))) (hm : PySem.W.mroIn K C (.type "object") = some true)
    (hs : PySem.W.findIn K (.ref C) "__eq__" = some (some (.ref f))) (hf : PySem.W.isFn K (.ref f) = true)
    (hcall : wpAny (model prog w) A.in1 (call (.ref f) [.ref x, b]) (fun v s' => ∃ c, v = .bool c ∧ Q (.bool (!c)) s') E s) :
    wpAny (model prog w) A (richCompare .NotEq (.ref x) b) Q E s := by
  have sub : PySem.W.Looks (model prog w) s.heap (isInstance (.ref x) (.type "object")) true := I.type.andThen (PySem.W.looks_mroIn X hm)
  have one : wpAny (model prog w) A (tryCompare (.ref x) "__ne__" b) (fun r s' => ∃ v, r = some v ∧ Q v s') E s := by
    unfold tryCompare
    refine wpAny_bind ?_
    simp only [callSpecialIfBound?, bindSpecialIfBound?]
    refine wpAny_holding (wpAny_bind (wpAny_bind (wpAny_bind (I.type.here ((PySem.W.looks_findIn X hne).here ?_)))))
    have fin : ∀ Q2 : Option Value → Shared → Prop, (∀ c s', Q (.bool (!c)) s' → Q2 (some (.bool (!c))) s') → wpAny (model prog w) A (call (.builtin "object.__ne__") ([.ref x] ++ [b]) >>= fun v => pure (some v)) Q2 E s := fun Q2 hQ2 => by
      refine wpAny_bind (wpAny_call (codeAny_call_builtin slot_objNe.plain F.cmpEntry_ne (PySem.W.check_slot F.cmpKind_ne F.cmpSplit_ne sub (F.cmpArgs_ne _ _) ?_)))
      refine objNe_K (A := A.in1) X I (Nat.lt_of_le_of_lt (by simp [Around.in1]) hu) hs hf (wpAny_mono hcall (fun v s' hv => ?_) fun _ _ e => e)
      obtain ⟨c, rfl, hq⟩ := hv
      exact ⟨c, rfl, wpAny_pure (hQ2 c s' hq)⟩
    refine wpAny_bind (wpAny_askSetting (wpAny_ite ?_))
    split
    · refine wpAny_bind ?_
      rw [slot_objNe.bind]
      exact wpAny_pure (wpAny_pure (fin _ fun c s' hq => wpAny_pure ⟨_, rfl, hq⟩))
    · refine wpAny_tryCatch (wpAny_bind ?_)
      rw [slot_objNe.bind]
      exact wpAny_pure (wpAny_pure (fin _ fun c s' hq => wpAny_pure ⟨_, rfl, hq⟩))
  unfold richCompare
  simp only [oneThing_ref]
  refine wpAny_holding (wpAny_bind (wpAny_cRoomFor (Nat.lt_of_succ_lt hu) ?_))
  refine wpAny_bind (I.type.here (wpAny_bind (hb.here ?_)))
  split
  · rename_i q
    have e : PySem.W.subIn K tb (.ref C) = some false := by
      rcases Bool.or_eq_true_iff.mp hn with e | e
      · rw [beq_iff_eq.mp e] at q; simp at q
      · exact beq_iff_eq.mp e
    refine wpAny_bind ((PySem.W.looks_subIn X e).here ?_)
    simp only [Bool.false_eq_true, if_false]
    refine wpAny_bind (wpAny_mono one (fun r s' z => ?_) fun _ _ e => e)
    obtain ⟨v, rfl, hq⟩ := z
    exact wpAny_pure hq
  · refine wpAny_bind (wpAny_pure ?_)
    simp only [Bool.false_eq_true, if_false]
    refine wpAny_bind (wpAny_mono one (fun r s' z => ?_) fun _ _ e => e)
    obtain ⟨v, rfl, hq⟩ := z
    exact wpAny_pure hq
end
/-- x == y, x != y: x an instance of the class at C with an own == that answers a bool -/
def rOwnC (K : PySem.W.Frag) (C : Addr) (sp : Sp) (neg : Bool) : R2 := fun x y H Q => ∃ a dx fs tb, x = .ref a ∧ H a = some (.ins C dx fs) ∧ TyX K H y tb ∧ PySem.W.notFirst K C tb = true ∧
  sp [x, y] H (fun z H' => ∃ c, z = .bl c ∧ Q (.bl (neg != c)) H') E0
/-- what of the class must be known -/
structure OwnC (K : PySem.W.Frag) (C f : Addr) : Prop where
  eq : PySem.W.findIn K (.ref C) "__eq__" = some (some (.ref f))
  fn : PySem.W.isFn K (.ref f) = true
  ne : PySem.W.findIn K (.ref C) "__ne__" = some (some (.builtin "object.__ne__"))
  top : PySem.W.mroIn K C (.type "object") = some true
section
variable {X : Cx} {C f : Addr} {fd : FuncData} {ps : List Str} {sp : Sp} {n : Nat}
theorem own_run (F : FnOk X.prog X.w X.K X.mg X.base CX0 n f fd ps sp) (hb : Binds X.K fd ps []) {A : Around} (hr : Room n A) (hA : A.frames = X.A.frames) {pins : List (Addr × Obj)} {s : Shared} {σ : L2.St} {H : Hp} {a : Addr} {y : V} {u : Value} {Q : VK}
    (I : Inv X pins σ H s) (ry : RelV y u) (h : sp [.ref a, y] H Q E0) : wpAny (model X.prog X.w) A (call (.ref f) [.ref a, u]) (EP X pins σ Q) X.xe s := by
  have e0 : Env0 X.prog X.w X.K X.mg X.base A X.stack s H := by
    have e := I.env0
    exact ⟨by rw [hA]; exact e.frames, e.mod, e.bs, e.bsz, e.funs, e.frf, e.hok, e.bare⟩
  have hl := F.len _ _ _ _ h
  have r2 : Vals [V.ref a, y] [Value.ref a, u] := .cons rfl (.cons ry .nil)
  refine wpAny_call (codeAny_mono (F.run A X.stack s H ⟨[.ref a, u], []⟩ [.ref a, u] [.ref a, y] _ E0 hr e0 (by
    have := hb s [.ref a, u] I.kIn (by simpa using hl)
    simpa using this) r2 h) fun r s' hq => ?_)
  cases r with
  | error e => exact (pass0 pins σ H s e s' I hq)
  | ok fl =>
    cases fl with
    | ret w => exact I.after hq
    | next => exact False.elim hq
    | brk => exact False.elim hq
    | cont => exact False.elim hq
theorem op_ownEq (O : OwnC X.K C f) (F : FnOk X.prog X.w X.K X.mg X.base CX0 n f fd ps sp) (hb : Binds X.K fd ps []) (hr : Room n X.A) : OpR X (compareOp .Eq) (rOwnC X.K C sp false) := by
  intro pins s σ H x y v u Q I rx ry h
  obtain ⟨a, dx, fs, tb, rfl, ha, ty, hn, q⟩ := h
  cases rx
  obtain ⟨mA, J, _⟩ := ins_get I.hok ha
  obtain ⟨od, J, _⟩ := J.look
  obtain ⟨m, hF⟩ := I.fr
  obtain ⟨P, Z, p, _⟩ := kit_of I ry ty
  show wpAny (model X.prog X.w) X.A (richCompare .Eq (.ref a) u) (EP X pins σ Q) X.xe s
  refine PySem.W.cmp_K (op := .Eq) (tb := tb) hr.units0 hF I.ok.mod.kin J (Z.ty _ _ I.kIn p) hn O.eq O.fn ?_
  refine wpAny_mono (own_run F hb hr rfl I ry q) (fun r s' z => ?_) fun _ _ x => x
  obtain ⟨z, H', I', rz, c, e, q'⟩ := z
  subst e
  obtain rfl : r = Value.bool c := rz
  have e : (false != c) = c := by cases c <;> rfl
  rw [e] at q'
  exact ⟨.bl c, H', I', rfl, q'⟩
theorem op_ownNe (O : OwnC X.K C f) (F : FnOk X.prog X.w X.K X.mg X.base CX0 n f fd ps sp) (hb : Binds X.K fd ps []) (hr : Room (n + 1) X.A) : OpR X (compareOp .NotEq) (rOwnC X.K C sp true) := by
  intro pins s σ H x y v u Q I rx ry h
  obtain ⟨a, dx, fs, tb, rfl, ha, ty, hn, q⟩ := h
  cases rx
  obtain ⟨mA, J, _⟩ := ins_get I.hok ha
  obtain ⟨od, J, _⟩ := J.look
  obtain ⟨P, Z, p, _⟩ := kit_of I ry ty
  show wpAny (model X.prog X.w) X.A (richCompare .NotEq (.ref a) u) (EP X pins σ Q) X.xe s
  refine ne_K (by have := hr.units; omega) I.kIn J (Z.ty _ _ I.kIn p) hn O.ne O.top O.eq O.fn ?_
  refine wpAny_mono (own_run F hb hr.in1 rfl I ry q) (fun r s' z => ?_) fun _ _ x => x
  obtain ⟨z, H', I', rz, c, e, q'⟩ := z
  subst e
  obtain rfl : r = Value.bool c := rz
  have e : (true != c) = !c := by cases c <;> rfl
  rw [e] at q'
  exact ⟨c, rfl, .bl (!c), H', I', rfl, q'⟩
end
end KX

/-! enumerate(t) of a tuple -/
namespace PySem
open Sem (wp)
theorem meets_enumerate_new1B {v : Value} {o : Obj} {H : Heap → Prop} (B : Begins v o H) :
    Meets (Builtin.«enumerate.__new__» ⟨[.type "enumerate", v], []⟩) (fun _ R s => H s.heap ∧
      R (.ok (.ret (.ref (s.heap.push o).objs.size))) { s with heap := (s.heap.push o).push { cls := .type "enumerate", data := .fields #[.none, .bool false, .ref s.heap.objs.size, rawInt 0, .none, .none] } }) :=
  .of_wp fun prog w A R s h => by
    obtain ⟨hp, g, d, tk, os⟩ := s; obtain ⟨h1, h⟩ := h
    have hsub := sub_enumerate
    have q1 : ∀ {A' : Around} {E : Value → Shared → Prop} {Q : Value → Shared → Prop}, Q (.ref hp.objs.size) ⟨hp.push o, g, d, tk, os⟩ → wpAny (model prog w) A' (pyIter v) Q E ⟨hp, g, d, tk, os⟩ :=
      fun q => B.iter prog w _ _ ⟨hp, g, d, tk, os⟩ _ h1 q
    wp_walk using q1
    refine wpAny_stack_any fun st => wpAny_pure ?_
    split
    · rename_i c _ _ _ _ _
      cases (c == Value.type "enumerate")
      · wp_walk using q1
        exact ⟨_, rfl, h⟩
      · wp_walk using q1
        exact ⟨_, rfl, h⟩
    · wp_walk using q1
      exact ⟨_, rfl, h⟩
section
variable {prog : Program} {w : World} {A : Around} {E : Value → Shared → Prop} {s : Shared}
/-- enumerate(v): its two new cells -/
theorem enum_begins1 {v : Value} {o : Obj} {H : Heap → Prop} {Q : Value → Shared → Prop} (B : Begins v o H) (h1 : H s.heap)
    (h : ∀ h', IsEnum h' (s.heap.objs.size + 1) s.heap.objs.size 0 .none → h'.get? s.heap.objs.size = some o → h'.objs.size = s.heap.objs.size + 2 →
      (∀ b o, s.heap.get? b = some o → h'.get? b = some o) → Q (.ref (s.heap.objs.size + 1)) { s with heap := h' }) :
    wpAny (model prog w) A (call (.type "enumerate") [v]) Q E s := by
  refine callType_new F.called_enumerate (by decide) (F.typeCall_enumerate_1 _) (F.newCall_enumerate_1 _) (fun obj => F.args_object_init_2 obj _) F.entry_enumerate_new
    (meets_enumerate_new1B B) ⟨h1, ?_⟩
  have hz : (s.heap.push o).objs.size = s.heap.objs.size + 1 := Heap.size_push ..
  show _ ∧ _
  rw [hz]
  have he : IsEnum ((s.heap.push o).push { cls := .type "enumerate", data := .fields #[.none, .bool false, .ref s.heap.objs.size, rawInt 0, .none, .none] }) (s.heap.objs.size + 1) s.heap.objs.size 0 .none := by
    have := Heap.get?_push_size (s.heap.push o) (o := { cls := .type "enumerate", data := .fields #[.none, .bool false, .ref s.heap.objs.size, rawInt 0, .none, .none] }) rfl
    rw [hz] at this; exact this
  refine ⟨⟨_, he, rfl⟩, h _ he (Heap.get?_push_of_some _ (Heap.get?_push_size _ B.free)) (by rw [Heap.size_push, hz]) fun b o x => Heap.get?_push_of_some _ (Heap.get?_push_of_some _ x)⟩
end
end PySem
namespace KX
open PySem PySem.Spec PyProof.Rows L2
/-- the tuple at a as it stands at each turn, each item in a new pair -/
def Itn (K : PySem.W.Frag) (a : Addr) : It :=
  ⟨fun i H => ∃ (xs : List V) (x : V), SqT K H a xs ∧ xs[i]? = some x, fun i H v H' => ∃ T x, v = .ref T ∧ H T = none ∧ H' = upd H T (.tup [.int (i : Nat), x]) ∧ ∀ xs, SqT K H a xs → xs[i]? = some x, fun i H => ∃ xs : List V, SqT K H a xs ∧ xs.length ≤ i⟩
theorem apart_tup {h : Heap} {a it : Addr} {its : Array Value} {i : Nat} (p : h.IsTuple a its) (q : h.IsTupleIter it a i) : a ≠ it := fun z => by
  obtain ⟨o, ho, hc, hd⟩ := q
  obtain ⟨o2, ho2, hc2, _⟩ := p
  rw [z, ho] at ho2
  cases ho2
  rw [hc] at hc2
  simp at hc2
theorem turn_enumT {P : Program} {w : World} {K : PySem.W.Frag} {elts : List Expr} {kk : Nat} {tpos : Pos} (a e it : Addr) :
    Turn P w K (.Tuple elts kk tpos) (Itn K a) [e, it] e (fun i h => (∃ old, IsEnum h e it ((i : Nat) : Int) old) ∧ h.IsTupleIter it a i ∧ e ≠ it) where
  mem := by simp
  obj := fun i h st b hb => by
    obtain ⟨⟨old, he⟩, ⟨o, ho, hc, hd⟩, _⟩ := st
    have e' : b = e ∨ b = it := by simpa using hb
    rcases e' with z | z
    · rw [z]; exact ⟨_, he, fun v q => nomatch q⟩
    · rw [z]; exact ⟨o, ho, fun v q => by rw [hd] at q; cases q⟩
  keep := fun i h h' st k => let ⟨⟨old, he⟩, hi, hne⟩ := st; ⟨⟨old, k e (by simp) _ he⟩, hi.at fun o q => k it (by simp) o q, hne⟩
  item := by
    intro X hP hw hK hc i pins s σ H E I hf st hg
    subst hP hw hK
    obtain ⟨⟨old, he⟩, hit, hne⟩ := st
    obtain ⟨xs, x, hq, hx⟩ := hg
    obtain ⟨its, rv, p, hz⟩ := I.tuple hq
    have p : s.heap.IsTuple a its.toArray := p
    have hai := apart_tup p hit
    obtain ⟨u, hu, ru⟩ := rv.get hx
    have hel : e < s.heap.objs.size := Heap.lt_size he
    have hil : it < s.heap.objs.size := by obtain ⟨_, q, _⟩ := hit; exact Heap.lt_size q
    have hea : e ≠ a := fun z => by
      obtain ⟨o2, ho2, hc2, _⟩ := p
      have he' : s.heap.get? e = some _ := he
      rw [z, ho2] at he'
      cases he'
      simp at hc2
    refine wpAny_pyNext_enum_itemD (Draws.tuple (A := X.A.in1) (I.ok.hd hc) it a hai its.toArray) he ⟨hit, p⟩ (by
      obtain ⟨hl, _⟩ := List.getElem?_eq_some_iff.mp hu
      simpa using hl) hne (by simp [hne, hea]) fun x' h' tk hx' ho st' hT hsz hk => ?_
    have hxe : x' = u := by
      have e1 : its[i]? = some x' := by simpa using hx'
      rw [hu] at e1
      exact (Option.some.inj e1).symm
    subst hxe
    refine ⟨_, rfl, wpAny_letOwnedTupleGo_enum (s := { s with heap := h', toks := tk + 1 }) ho fun h'' he' sb => ?_⟩
    have hT2 : h''.get? s.heap.objs.size = some { cls := .type "tuple", data := .seq #[.int i tk, x'] } := (sb.2 _ (Nat.ne_of_gt hel)).trans hT
    have new : ObjOk X.prog X.w (upd H s.heap.objs.size (.tup [.int (i : Nat), x])) h'' s.heap.objs.size (.tup [.int (i : Nat), x]) :=
      ⟨by show 2 ≤ sizeLine; decide, [.int i tk, x'], .cons ⟨_, rfl⟩ (.cons ru .nil), ⟨_, hT2, rfl, _, rfl⟩⟩
    have I1 : Inv X pins σ (upd H s.heap.objs.size (.tup [.int (i : Nat), x])) { s with heap := h'', toks := tk + 1 } :=
      I.turnedNew (ch := [e, it]) (fun b ob hb q => (sb.2 b (fun z => hb (by simp [z]))).trans (hk b ob (fun z => hb (by simp [z])) (fun z => hb (by simp [z])) q)) hf (Nat.le_refl _) new
    refine ⟨.ref s.heap.objs.size, _, I1, rfl, ⟨_, x, rfl, I.hok.fresh (Nat.le_refl _), rfl, fun ys hy => by rw [I.tuple_inj hy hq]; exact hx⟩, ⟨⟨x', ?_⟩, st'.1.at fun o q => (sb.2 it (Ne.symm hne)).trans q, hne⟩, fun b hb => ?_⟩
    · have e1 : ((i + 1 : Nat) : Int) = (i : Int) + 1 := by omega
      rw [e1]; exact he'
    · have hb' : b < s.heap.objs.size := by
        have e' : b = e ∨ b = it := by simpa using hb
        rcases e' with z | z
        · rw [z]; exact hel
        · rw [z]; exact hil
      rw [upd_ne (Nat.ne_of_lt hb')]
      exact (hf b hb).1
  done := by
    intro X hP hw hK hc i pins s σ H E I hf st hg
    subst hP hw hK
    obtain ⟨⟨old, he⟩, hit, hne⟩ := st
    obtain ⟨xs, hq, hx⟩ := hg
    obtain ⟨its, rv, p, hz⟩ := I.tuple hq
    have p : s.heap.IsTuple a its.toArray := p
    obtain ⟨f0, f1, f2, f3, f4, f5⟩ := hf it (by simp)
    have hl := rv.length
    have hT : s.TypeIs (.ref e) "enumerate" := ⟨_, he, rfl⟩
    unfold pyNext
    refine wpAny_bind (wpAny_attempt (wpAny_callSpecial?_slot (name := Str.ofString "__next__") hT F.slot_enumerate_next
      (wpAny_call_entry F.slot_enumerate_next hT F.entry_enumerate_next ?_ (F.args_enumerate_next_1 _))))
    show wpAny _ _ (field (.ref e) 2 >>= _) _ _ _
    refine wpAny_bind (wpAny_field he rfl (x := .ref it) rfl ?_)
    refine wpAny_bind (wpAny_nextOf_tuple_end (I.ok.hd hc) hit p (by simp; omega) fun h' x he' hx' => ?_)
    obtain ⟨o, ho, hc⟩ := hx'
    refine wpAny_bind (wpAny_isInstance (T := "StopIteration") (b := true) ⟨o, ho, hc⟩ isSubtype_stop ?_)
    exact wpAny_pure ⟨rfl, I.turned (t' := s.toks) (fun b o hb q => he' b o hb q) f0 f1 f3 f4 f5⟩
  self := fun A i s Q E st h => let ⟨⟨_, he⟩, _⟩ := st; wpAny_pyIter_enum he h
def iEnumT (K : PySem.W.Frag) (ta : TA) : TI := fun σ H R => ta σ H fun vs H1 => ∃ a xs, vs = [.ref a] ∧ SqT K H1 a xs ∧ R (Itn K a) H1
theorem pi_enumT {X : Cx} {e : Expr} {ta : TA} {p pos tpos : Pos} {elts : List Expr} {kk : Nat} (hg : Gl X "enumerate") (hm : X.mg "enumerate" = none) (ha : PA X [e] ta) (hs : starEach [e] X.env = [(false, eval e X.env)] := by rfl) :
    PI X (.Tuple elts kk tpos) (.Call (.Name "enumerate" p) [e] [] pos) (iEnumT X.K ta) := by
  refine ⟨fun pins s σ H R I h => ?_⟩
  refine Call_ (ld_blt I hg hm boot_enumerate (PyProof.Rows.callWith_type1 (thn (ha.run pos pins s σ H _ I h) fun us s1 ⟨vs, H1, I1, r1, q1⟩ => ?_) hs rfl))
  obtain ⟨a, xs, ex, hq, q⟩ := q1
  subst ex
  cases r1 with
  | cons r rr =>
    cases rr
    cases r
    obtain ⟨its, rv, p', hz⟩ := I1.tuple hq
    have p' : s1.heap.IsTuple a its.toArray := p'
    refine enum_begins1 (begins_tuple a its.toArray) p' fun h' he hit hsz hk => wpAny_pyIter_enum he ?_
    have I2 : Inv X pins σ H1 { s1 with heap := h' } := I1.kept (t' := s1.toks) hk
    refine ⟨s1.heap.objs.size + 1, [s1.heap.objs.size + 1, s1.heap.objs.size], _, _, H1, rfl, I2, turn_enumT a (s1.heap.objs.size + 1) s1.heap.objs.size, ⟨⟨.none, he⟩, ⟨_, hit, rfl, rfl⟩, Nat.succ_ne_self _⟩, fun b hb => ?_, q⟩
    have e' : b = s1.heap.objs.size + 1 ∨ b = s1.heap.objs.size := by simpa using hb
    have hle : s1.heap.objs.size ≤ b := by
      rcases e' with z | z
      · rw [z]; exact Nat.le_add_right _ _
      · rw [z]; exact Nat.le_refl _
    exact I1.fpOk hle (I1.hok.fresh hle)
theorem walk_enumT {K : PySem.W.Frag} {a : Addr} {xs : List V} : Walk (Itn K a) xs.length (fun H => SqT K H a xs) (YPair (fun i => some (.int (i : Nat))) (fun i => xs[i]?)) := by
  refine ⟨fun i _ hi q => ⟨xs, xs[i], q, by simp [hi]⟩, fun _ q => ⟨xs, q, Nat.le_refl _⟩, fun i H v H' _ q y => ?_⟩
  obtain ⟨T, x, h1, h2, h3, h4⟩ := y
  exact ⟨T, .int (i : Nat), x, h1, h2, h3, rfl, h4 xs q⟩
end KX

namespace KX
open PySem PySem.Spec PyProof.Rows L2
/-! readings, one step at a time -/
/-- a new object: any address that was free, the heap behind it -/
def NewO (H : Hp) (o : HO) (Q : VK) : Prop := ∀ p H', H p = none → Same H H' → H' p = some o → Q (.ref p) H'
theorem new_of {H : Hp} {o : HO} {Q : VK} (h : NewO H o Q) : ∀ p, H p = none → Q (.ref p) (upd H p o) := fun p hp => h p _ hp (Same.fresh hp) upd_same
section
variable {σ : L2.St} {H : Hp} {D : Ends} {Q : VK} {QT : Bool → Hp → Prop} {QA : List V → Hp → Prop} {QS : L2.St → Hp → Prop}
theorem rd_seq {t u : TS} (h : t { D with nx := u D } σ H) : tSeq t u D σ H := h
theorem rd_nx {a b c d} (h : a σ H) : ({ nx := a, rt := b, bk := c, ct := d } : Ends).nx σ H := h
theorem rd_rt {a b c d} {v : V} (h : b v H) : ({ nx := a, rt := b, bk := c, ct := d } : Ends).rt v H := h
theorem rd_ct {a b c d} (h : d σ H) : ({ nx := a, rt := b, bk := c, ct := d } : Ends).ct σ H := h
theorem rd_bk {a b c d} (h : c σ H) : ({ nx := a, rt := b, bk := c, ct := d } : Ends).bk σ H := h
theorem rd_next (h : D.nx σ H) : tNext D σ H := h
theorem rd_cont (h : D.ct σ H) : tCont D σ H := h
theorem rd_brk (h : D.bk σ H) : tBreak D σ H := h
theorem rd_drop {te : TE} (h : te σ H fun _ H1 => D.nx σ H1) : tDrop te D σ H := h
theorem rd_ret {te : TE} (h : te σ H D.rt) : tRet te D σ H := h
theorem rd_retN (h : D.rt .non H) : tRetN D σ H := h
theorem rd_ifs {c : TT} {t u : TS} (h : c σ H fun b H1 => if b = true then t D σ H1 else u D σ H1) : tIfS c t u D σ H := h
theorem rd_asg {te : TE} {g : TG} (h : te σ H fun x H1 => g x σ H1 D.nx) : tAsg te g D σ H := h
theorem rd_par {i j : Nat} {ta : TA} (h : ta σ H fun vs H1 => ∃ v w, vs = [v, w] ∧ D.nx ((σ.set i (some v)).set j (some w)) H1) : tPar i j ta D σ H := h
theorem rd_par2 {f : V → V → Prop} {v w : V} (h : f v w) : ∃ x y, [v, w] = [x, y] ∧ f x y := ⟨v, w, rfl, h⟩
theorem rd_par3 {i j l : Nat} {ta : TA} (h : ta σ H fun vs H1 => ∃ u v w, vs = [u, v, w] ∧ D.nx (((σ.set i (some u)).set j (some v)).set l (some w)) H1) : tPar3 i j l ta D σ H := h
theorem rd_par33 {f : V → V → V → Prop} {u v w : V} (h : f u v w) : ∃ z x y, [u, v, w] = [z, x, y] ∧ f z x y := ⟨u, v, w, rfl, h⟩
theorem rd_name {i : Nat} {v : V} (h : QS (σ.set i (some v)) H) : gName i v σ H QS := h
theorem rd_sub {to ti : TE} {t : TSet} {v : V} (h : to σ H fun o H1 => ti σ H1 fun i H2 => t o i v H2 fun H3 => QS σ H3) : gSub to ti t v σ H QS := h
theorem rd_gcons {t : TG} {u : TGs} {v : V} {vs : List V} (h : t v σ H fun σ' H' => u vs σ' H' QS) : gCons t u (v :: vs) σ H QS := ⟨v, vs, rfl, h⟩
theorem rd_gnil (h : QS σ H) : gNil [] σ H QS := ⟨rfl, h⟩
theorem rd_gtup {K : PySem.W.Frag} {n : Nat} {t : TGs} {a : Addr} {xs : List V} (ha : Tup H a xs) (hn : xs.length = n) (h : t xs σ H QS) : gTup K n t (.ref a) σ H QS := ⟨a, xs, rfl, ha.sq, hn, h⟩
theorem rd_glst {K : PySem.W.Frag} {n : Nat} {t : TGs} {a : Addr} {xs : List V} (ha : H a = some (.lst xs)) (hn : xs.length = n) (h : t xs σ H QS) : gLst K n t (.ref a) σ H QS := ⟨a, xs, rfl, SqL.of ha, hn, h⟩
theorem rd_var {i : Nat} {v : V} (e : σ[i]? = some (some v)) (h : Q v H) : tVar i σ H Q := ⟨v, e, h⟩
theorem rd_c {v : V} (h : Q v H) : tC v σ H Q := h
theorem rd_op {r : R2} {ta tb : TE} (h : ta σ H fun x H1 => tb σ H1 fun y H2 => r x y H2 Q) : tOp r ta tb σ H Q := h
theorem rd_un {r : V → Hp → VK → Prop} {ta : TE} (h : ta σ H fun x H1 => r x H1 Q) : tUn r ta σ H Q := h
theorem rd_tB {t : TE} (h : t σ H fun x H1 => ∃ c, x = .bl c ∧ QT c H1) : tB t σ H QT := h
theorem rd_test {t : TE} (h : t σ H fun x H1 => ∃ c, x = .bl c ∧ QT c H1) : tTest t σ H QT := h
theorem rd_bl {f : Bool → Prop} {b : Bool} (h : f b) : ∃ c, V.bl b = .bl c ∧ f c := ⟨b, rfl, h⟩
theorem rd_and {t u : TT} (h : t σ H fun c H1 => if c = true then u σ H1 QT else QT false H1) : tAnd t u σ H QT := h
theorem rd_or {t u : TT} (h : t σ H fun c H1 => if c = true then QT true H1 else u σ H1 QT) : tOr t u σ H QT := h
theorem rd_not {t : TT} (h : t σ H fun c H1 => QT (!c) H1) : tNot t σ H QT := h
theorem rd_yes (h : QT true H) : tYes σ H QT := h
theorem rd_andV {ta tb : TE} (h : ta σ H fun x H1 => ∃ c, x = .bl c ∧ if c = true then tb σ H1 Q else Q (.bl false) H1) : tAndV ta tb σ H Q := h
theorem rd_orV {ta tb : TE} (h : ta σ H fun x H1 => ∃ c, x = .bl c ∧ if c = true then Q (.bl true) H1 else tb σ H1 Q) : tOrV ta tb σ H Q := h
theorem rd_notV {ta : TE} (h : ta σ H fun x H1 => ∃ c, x = .bl c ∧ Q (.bl (!c)) H1) : tNotV ta σ H Q := h
theorem rd_if {t : TT} {ta tb : TE} (h : t σ H fun c H1 => if c = true then ta σ H1 Q else tb σ H1 Q) : tIf t ta tb σ H Q := h
theorem rd_isN {ta : TE} (h : ta σ H fun x H1 => Q (.bl (decide (x = .non))) H1) : tIsN ta σ H Q := h
theorem rd_iT {A B : Prop} (h : A) : if true = true then A else B := by rw [if_pos rfl]; exact h
theorem rd_iF {A B : Prop} (h : B) : if false = true then A else B := by rw [if_neg (by decide)]; exact h
theorem rd_nil (h : QA [] H) : tNil σ H QA := h
theorem rd_cons {ta : TE} {tr : TA} (h : ta σ H fun x H1 => tr σ H1 fun xs H2 => QA (x :: xs) H2) : tCons ta tr σ H QA := h
/-- behind a display's items -/
def TupTail (Q : VK) (xs : List V) (H1 : Hp) : Prop := xs.length ≤ sizeLine ∧ ∀ p, H1 p = none → Q (.ref p) (upd H1 p (.tup xs))
def LstTail (Q : VK) (xs : List V) (H1 : Hp) : Prop := xs.length ≤ sizeLine ∧ ∀ p, H1 p = none → Q (.ref p) (upd H1 p (.lst xs))
theorem rd_tup {t : TA} (h : t σ H (TupTail Q)) : tTup t σ H Q := h
theorem rd_lst {t : TA} (h : t σ H (LstTail Q)) : tLst t σ H Q := h
theorem rd_tupT {xs : List V} (hl : xs.length ≤ 1000 := by decide) (h : NewO H (.tup xs) Q) : TupTail Q xs H := ⟨Nat.le_trans hl (by decide), new_of h⟩
theorem rd_lstT {xs : List V} (hl : xs.length ≤ 1000 := by decide) (h : NewO H (.lst xs) Q) : LstTail Q xs H := ⟨Nat.le_trans hl (by decide), new_of h⟩
theorem rd_call {sp : Sp} {dvs : List V} {E : XK} {t : TA} (h : t σ H fun vs H1 => sp (vs ++ dvs) H1 Q E) : tCall sp dvs E t σ H Q := h
theorem rd_cb {r : List V → Hp → VK → Prop} {t : TA} (h : t σ H fun vs H1 => r vs H1 Q) : tCB r t σ H Q := h
theorem rd_bm {K : PySem.W.Frag} {T : String} {r : V → List V → Hp → VK → Prop} {to : TE} {t : TA} (h : to σ H fun x H1 => tyV K T x H1 ∧ t σ H1 fun xs H2 => r x xs H2 Q) : tBM K T r to t σ H Q := h
theorem rd_bm0 {K : PySem.W.Frag} {T : String} {r : V → List V → Hp → VK → Prop} {to : TE} (h : to σ H fun x H1 => tyV K T x H1 ∧ r x [] H1 Q) : tBM0 K T r to σ H Q := h
theorem rd_sl {r : V → Option Int → Option Int → Hp → VK → Prop} {te : TE} {tl th : TO} (h : te σ H fun x H1 => tl σ H1 fun l H2 => th σ H2 fun u H3 => r x l u H3 Q) : tSl r te tl th σ H Q := h
theorem rd_noP {Q : Option Int → Hp → Prop} (h : Q none H) : tNoPart σ H Q := h
theorem rd_part {t : TE} {Q : Option Int → Hp → Prop} (h : t σ H fun x H1 => ∃ i, x = .int i ∧ Q (some i) H1) : tPart t σ H Q := h
theorem rd_int {f : Int → Prop} {i : Int} (h : f i) : ∃ j, V.int i = .int j ∧ f j := ⟨i, rfl, h⟩
theorem rd_int1 {f : Int → Prop} {i : Int} (h : f i) : ∃ j, [V.int i] = [.int j] ∧ f j := ⟨i, rfl, h⟩
theorem rd_fld {K : PySem.W.Frag} {ta : TE} {f : Str} (h : ta σ H fun x H1 => ∃ a C dx fs v, x = .ref a ∧ H1 a = some (.ins C dx fs) ∧ Cls K C ∧ NoAttr K C f ∧ fs.lookup f = some v ∧ Q v H1) : tFld K ta f σ H Q := h
theorem rd_ilist {K : PySem.W.Frag} {tl : TE} {R : It → Hp → Prop} (h : tl σ H fun x H1 => ∃ a, x = .ref a ∧ (∃ xs, SqL K H1 a xs) ∧ R (Itl K a) H1) : iList K tl σ H R := h
theorem rd_itup {K : PySem.W.Frag} {tl : TE} {R : It → Hp → Prop} (h : tl σ H fun x H1 => ∃ a, x = .ref a ∧ (∃ xs, SqT K H1 a xs) ∧ R (Itt K a) H1) : iTup K tl σ H R := h
theorem rd_rng1 {ta : TA} {R : It → Hp → Prop} (h : ta σ H fun vs H1 => ∃ j : Int, vs = [.int j] ∧ -(2 ^ 62) ≤ j ∧ j < 2 ^ 62 ∧ R (Itr 0 j.toNat) H1) : iRng1 ta σ H R := h
theorem rd_enum {K : PySem.W.Frag} {ta : TA} {R : It → Hp → Prop} (h : ta σ H fun vs H1 => ∃ a xs, vs = [.ref a] ∧ SqL K H1 a xs ∧ R (Ite K a) H1) : iEnum K ta σ H R := h
theorem rd_enumT {K : PySem.W.Frag} {ta : TA} {R : It → Hp → Prop} (h : ta σ H fun vs H1 => ∃ a xs, vs = [.ref a] ∧ SqT K H1 a xs ∧ R (Itn K a) H1) : iEnumT K ta σ H R := h
theorem rd_rng1v {j : Int} {n : Nat} {R : It → Prop} (hj : j = n) (hn : n < 1000000) (h : R (Itr 0 n)) : ∃ k : Int, [V.int j] = [.int k] ∧ -(2 ^ 62) ≤ k ∧ k < 2 ^ 62 ∧ R (Itr 0 k.toNat) := by
  subst hj
  exact ⟨_, rfl, by omega, by omega, h⟩
/-! operators by values -/
theorem rd_rI0 {g : Int → Int → V} {i j : Int} (h : Q (g i j) H) : rI0 g (.int i) (.int j) H Q := ⟨i, j, rfl, rfl, h⟩
theorem rd_rI {C : Int → Int → Prop} {g : Int → Int → V} {i j : Int} (hc : C i j) (h : Q (g i j) H) : rI C g (.int i) (.int j) H Q := ⟨i, j, rfl, rfl, hc, h⟩
theorem rd_rU {g : Int → V} {i : Int} (h : Q (g i) H) : rU g (.int i) H Q := ⟨i, rfl, h⟩
theorem rd_eqI {i j : Int} (h : Q (.bl (decide (i = j))) H) : rEq (.int i) (.int j) H Q := by
  refine ⟨rfl, ?_⟩
  have e : decide (V.int i = V.int j) = decide (i = j) := by by_cases z : i = j <;> simp [z]
  rw [e]; exact h
theorem rd_neI {i j : Int} (h : Q (.bl (!decide (i = j))) H) : rNe (.int i) (.int j) H Q := by
  refine ⟨rfl, ?_⟩
  have e : decide (V.int i = V.int j) = decide (i = j) := by by_cases z : i = j <;> simp [z]
  rw [e]; exact h
theorem rd_ixL {K : PySem.W.Frag} {p : Addr} {xs : List V} {i : Int} {v : V} (ha : H p = some (.lst xs)) (e : atI xs i = some v) (h : Q v H) : rIxL K (.ref p) (.int i) H Q := ⟨p, xs, i, v, rfl, rfl, SqL.of ha, e, h⟩
theorem rd_ixT {K : PySem.W.Frag} {p : Addr} {xs : List V} {i : Int} {v : V} (ha : Tup H p xs) (e : atI xs i = some v) (h : Q v H) : rIxT K (.ref p) (.int i) H Q := ⟨p, xs, i, v, rfl, rfl, ha.sq, e, h⟩
theorem rd_cat {a b : Addr} {xs ys : List V} (ha : H a = some (.lst xs)) (hb : H b = some (.lst ys)) (hl : xs.length + ys.length ≤ 1000000) (h : NewO H (.lst (xs ++ ys)) Q) : rCat (.ref a) (.ref b) H Q :=
  ⟨a, b, xs, ys, rfl, rfl, ha, hb, Nat.le_trans hl (by decide), new_of h⟩
theorem rd_slL {K : PySem.W.Frag} {a : Addr} {xs : List V} {lo hi : Option Int} (ha : H a = some (.lst xs)) (h : NewO H (.lst (cutV xs lo hi)) Q) : rSlL K (.ref a) lo hi H Q := ⟨a, xs, rfl, SqL.of ha, new_of h⟩
theorem rd_app {l : Addr} {xs : List V} {y : V} (ha : H l = some (.lst xs)) (hl : xs.length < 1000000) (h : Q .non (upd H l (.lst (xs ++ [y])))) : rAppend (.ref l) [y] H Q :=
  ⟨l, xs, y, rfl, rfl, ha, Nat.lt_of_lt_of_le hl (by decide), h⟩
theorem rd_lenL {X : Cx} {p : Addr} {ys : List V} (ha : H p = some (.lst ys)) (h : Q (.int ys.length) H) : ∃ p' ys', [V.ref p] = [.ref p'] ∧ (SqL X.K H p' ys' ∨ SqT X.K H p' ys') ∧ Q (.int ys'.length) H := ⟨p, ys, rfl, .inl (SqL.of ha), h⟩
theorem rd_then {ta : TE} {k : V → Hp → VK → Prop} (h : ta σ H fun x H1 => k x H1 Q) : tThen ta k σ H Q := h
theorem rd_raise {C : Addr} {W : WX} {ta : TA} (h : ta σ H fun vs H1 => ∃ v, vs = [v] ∧ ∀ d, H1 d = none → W (.ref C) (some d) σ (upd H1 d (.xd [(("at" : Str), v)]))) : tRaiseErr C W ta D σ H := h
theorem rd_one {f : V → Prop} {v : V} (h : f v) : ∃ w, [v] = [w] ∧ f w := ⟨v, rfl, h⟩
theorem rd_sfld {K : PySem.W.Frag} {ta tv : TE} {f : Str} (h : tv σ H fun y H1 => ta σ H1 fun x H2 => ∃ a C dx fs, x = .ref a ∧ H2 a = some (.ins C dx fs) ∧ Cls K C ∧ NoAttr K C f ∧ fs.length < 1000 ∧ D.nx σ (upd H2 a (.ins C dx (putF f y fs)))) : sFld K ta tv f D σ H := h
end
end KX

namespace KX
open PySem PySem.Spec PyProof.Rows L2 L2H LamX
/-! the law's own call under CG, with some tables of code objects -/
section
variable {P : Program} {w : World} {K : PySem.W.Frag} {mg mb : Str → Option Value} {CX : CXT} {k : Nat} {fa a : Addr} {ts : List (Addr × Addr)}
  {fd : FuncData} {x : Str} {sp : Sp} {s₁ : Shared} {vs : List Value}
/-- only the script and the tables are tracked -/
structure OnlyS (H : Hp) (a : Addr) (ts : List (Addr × Addr)) : Prop where
  tab : ∀ p ∈ ts, H p.2 = some (.tbl #[])
  who : ∀ b, H b ≠ none → b = a ∨ ∃ p ∈ ts, b = p.2
  frz : ∀ u, H a = some u → ∃ o xs, u = .frz o (.lst xs)
theorem OnlyS.off {H : Hp} {b : Addr} (O : OnlyS H a ts) (h1 : b ≠ a) (h2 : ∀ p ∈ ts, b ≠ p.2) : H b = none :=
  Classical.byContradiction fun z => (O.who b z).elim h1 fun ⟨p, hp, e⟩ => h2 p hp e
theorem lawS_core {H : Hp}
    (KI : K.In s₁.heap) (hns : s₁.heap.Ns mainGlobals mg) (hb : s₁.heap.Ns builtinsNs mb)
    (hbb : ∀ x : Str, x ≠ "__name__" → mb x = bootBuiltins x) (hlim : s₁.heap.NoLimit) (hg : s₁.gens = #[])
    (ht : ∀ p ∈ ts, s₁.heap.get? p.2 = some { cls := .none, data := .fields #[] }) (nt : ∀ p ∈ ts, K.lookup p.2 = none) (C : ∀ p ∈ ts, PySem.W.CodeHd s₁.heap p.1 p.2)
    (hbm : ∃ (bm : Addr) (ob : Obj), mg "__builtins__" = some (.ref bm) ∧ bm ≠ builtinsNs ∧ s₁.heap.get? bm = some ob ∧ ob.cls = .type "module" ∧ ob.dict = some builtinsNs ∧ ob.data = .plain)
    (ha : s₁.heap.get? a = some { cls := .type "list", data := .seq vs.toArray }) (hr : Room k callerA)
    (F : ∀ base : Heap, K.In base → base.Ns mainGlobals mg → (∀ p ∈ ts, TabB base mg p.1 p.2) → FnR P w K mg base CX (CG k) fa fd [x] sp)
    (hbind : ∀ (s : Shared) (u : Value), BindsTo s fd ⟨[u], []⟩ [(x, u)])
    (hCX : ∀ H e s', CX [] H s₁ (fun _ _ _ => False) e s' → False)
    (O : OnlyS H a ts) (hS : sp [.ref a] H (fun v _ => v = .bl true) fun _ _ _ => False) (hok : HOk P w H s₁.heap)
    (hK : H a ≠ none → K.lookup a = none) :
    codeAny (model P w) callerA (.call (.ref fa) ⟨[.ref a], []⟩)
      (fun r s' => r = .ok (.ret (.bool true)) ∧ OldK s₁.heap s'.heap ∧ s'.os = s₁.os ∧ AllBare s'.gens) s₁ := by
  have sees : ∀ {b : Addr} {o : Obj}, s₁.heap.get? b = some o → (∀ vs n, o.data ≠ .seq vs n) → o.data ≠ .fields #[] →
      (hidT s₁.heap H).get? b = some o := fun {b o} e h1 h2 => hidT_get e (O.off (fun z => by
        subst z
        rw [ha] at e
        cases e
        exact h1 _ _ rfl) fun p hp z => by
        subst z
        rw [ht p hp] at e
        cases e
        exact h2 rfl)
  have nsH : ∀ {b : Addr} {m : Str → Option Value}, s₁.heap.Ns b m → (hidT s₁.heap H).Ns b m := fun {b m} n => by
    obtain ⟨o, es, ep, e, d, r⟩ := n
    exact ⟨o, es, ep, sees e (fun vs n z => by rw [d] at z; cases z) (fun z => by rw [d] at z; cases z), d, r⟩
  have KB : K.In (hidT s₁.heap H) := fun b o e => hidT_get (KI b o e) (Classical.byContradiction fun z => by
    rcases O.who b z with h | ⟨p, hp, h⟩
    · subst h
      rw [hK z] at e
      cases e
    · subst h
      rw [nt p hp] at e
      cases e)
  have MB : Mod K mg (hidT s₁.heap H) := by
    obtain ⟨mc, h1, h2⟩ := hlim
    exact ⟨KB, nsH hns, ⟨mb, nsH hb, hbb⟩, ⟨mc, nsH h1, h2⟩⟩
  have TB : ∀ p ∈ ts, TabB (hidT s₁.heap H) mg p.1 p.2 := fun p hp => by
    refine ⟨?_, ?_, fun z => ?_⟩
    · obtain ⟨o, us, file, tf, flags, tg, inF, text, tt, e1, r1, r2, r3, rest⟩ := C p hp
      refine ⟨o, us, file, tf, flags, tg, inF, text, tt, sees e1 (fun vs n z => ?_) (fun z => ?_), r1, r2, r3, rest⟩
      · rw [r2] at z
        cases z
      · rw [r2] at z
        cases z
        simp at r3
    · obtain ⟨bm, ob, b1, b2, b3, b4, b5, b6⟩ := hbm
      refine ⟨bm, ob, b1, b2, fun q => ?_, fun q => ?_, sees b3 (fun vs n z => by rw [b6] at z; cases z) (fun z => by rw [b6] at z; cases z), b4, b5, b6⟩
      · obtain ⟨o, es, ep, e, hd, _⟩ := hns
        rw [q, e] at b3
        cases b3
        rw [hd] at b6
        cases b6
      · rw [q, ht p hp] at b3
        cases b3
        cases b6
    · obtain ⟨o, es, ep, e, hd, _⟩ := hns
      rw [z, ht p hp] at e
      cases e
      cases hd
  have e0 : Env0 P w K mg (hidT s₁.heap H) callerA [] s₁ H :=
    ⟨rfl, MB, fun b o e => of_hidT e, Nat.le_of_eq (hidT_size _ _), trivial,
      fun b hb => absurd (show b ∈ ([] : List Addr) from hb) (by simp), hok, .of_eq hg⟩
  refine codeAny_mono ((F _ KB (nsH hns) TB).does callerA [] s₁ H ⟨[.ref a], []⟩ [.ref a] [.ref a] _ _ ⟨hr, rfl⟩ e0
    (hbind s₁ (.ref a)) (.cons rfl .nil) hS) fun r s' h => ?_
  match r, h with
  | .error e, h => exact (hCX H e s' h).elim
  | .ok (.ret u), h =>
    obtain ⟨v, H', os, bare, un, hok', r', q⟩ := h
    have q' : v = .bl true := q
    subst q'
    obtain rfl : u = Value.bool true := r'
    have hm : ∀ p ∈ ts, ∃ more : Array Value, s'.heap.get? p.2 = some { cls := .none, data := .fields more } := fun p hp => by
      obtain ⟨more, z⟩ := un.tbls p.2 #[] (O.tab p hp)
      exact ⟨_, hok' p.2 _ z⟩
    have other : ∀ b o, (∀ p ∈ ts, b ≠ p.2) → s₁.heap.get? b = some o → s'.heap.get? b = some o := fun b o nb e => by
      cases q : H b with
      | none => exact un.keep b o e q (by intro z; exact absurd (show b ∈ ([] : List Addr) from z) (by simp)) (by simp)
      | some u =>
        have eb : b = a := (O.who b (by rw [q]; exact fun z => nomatch z)).resolve_right fun ⟨p, hp, z⟩ => nb p hp z
        subst eb
        obtain ⟨ob, xs, rfl⟩ := O.frz _ q
        have e1 := (hok b _ q).1
        have e2 := (hok' b _ (un.frzs b ob _ q)).1
        rw [e] at e1
        cases e1
        exact e2
    refine ⟨rfl, ⟨fun b o e => ?_, fun b o e => ?_⟩, os, bare⟩
    · by_cases h : ∃ p ∈ ts, b = p.2
      · obtain ⟨p, hp, rfl⟩ := h
        obtain ⟨more, hm⟩ := hm p hp
        rw [ht p hp] at e
        cases e
        exact .inr (.inl ⟨((C p hp).tab (ht p hp)).isCodeTable, rfl, #[], more, rfl, by rw [Array.empty_append]; exact hm⟩)
      · exact .inl (other b o (fun p hp z => h ⟨p, hp, z⟩) e)
    · by_cases h : ∃ p ∈ ts, b = p.2
      · obtain ⟨p, hp, rfl⟩ := h
        obtain ⟨more, hm⟩ := hm p hp
        exact ⟨_, hm⟩
      · exact ⟨o, other b o (fun p hp z => h ⟨p, hp, z⟩) e⟩
theorem law_callS {ns : List Int}
    (KI : K.In s₁.heap) (hns : s₁.heap.Ns mainGlobals mg) (hb : s₁.heap.Ns builtinsNs mb)
    (hbb : ∀ x : Str, x ≠ "__name__" → mb x = bootBuiltins x) (hlim : s₁.heap.NoLimit) (hg : s₁.gens = #[])
    (ht : ∀ p ∈ ts, s₁.heap.get? p.2 = some { cls := .none, data := .fields #[] }) (nt : ∀ p ∈ ts, K.lookup p.2 = none) (C : ∀ p ∈ ts, PySem.W.CodeHd s₁.heap p.1 p.2)
    (hbm : ∃ (bm : Addr) (ob : Obj), mg "__builtins__" = some (.ref bm) ∧ bm ≠ builtinsNs ∧ s₁.heap.get? bm = some ob ∧ ob.cls = .type "module" ∧ ob.dict = some builtinsNs ∧ ob.data = .plain)
    (ha : s₁.heap.get? a = some { cls := .type "list", data := .seq vs.toArray }) (hi : IntsAre vs ns) (hl : ns.length ≤ sizeLine) (hr : Room k callerA)
    (F : ∀ base : Heap, K.In base → base.Ns mainGlobals mg → (∀ p ∈ ts, TabB base mg p.1 p.2) → FnR P w K mg base CX (CG k) fa fd [x] sp)
    (hbind : ∀ (s : Shared) (u : Value), BindsTo s fd ⟨[u], []⟩ [(x, u)])
    (hsp : ∀ H : Hp, (∀ p ∈ ts, H p.2 = some (.tbl #[])) → SqL K H a (ns.map V.int) → sp [.ref a] H (fun v _ => v = .bl true) fun _ _ _ => False)
    (hCX : ∀ H e s', CX [] H s₁ (fun _ _ _ => False) e s' → False) :
    codeAny (model P w) callerA (.call (.ref fa) ⟨[.ref a], []⟩)
      (fun r s' => r = .ok (.ret (.bool true)) ∧ OldK s₁.heap s'.heap ∧ s'.os = s₁.os ∧ AllBare s'.gens) s₁ := by
  have rv := vals_ints hi
  have nat : ∀ p ∈ ts, a ≠ p.2 := fun p hp z => by
    rw [z, ht p hp] at ha
    cases ha
  cases hk : K.lookup a with
  | some o =>
    have e := KI a o hk
    rw [ha] at e
    cases e
    let H : Hp := fun b => if b ∈ ts.map (·.2) then some (.tbl #[]) else none
    have atT : ∀ p ∈ ts, H p.2 = some (.tbl #[]) := fun p hp => if_pos (List.mem_map.mpr ⟨p, hp, rfl⟩)
    have off : ∀ {b}, b ∉ ts.map (·.2) → H b = none := fun h => if_neg h
    have on : ∀ {b}, b ∈ ts.map (·.2) → ∃ p ∈ ts, b = p.2 := fun h => by
      obtain ⟨p, hp, e⟩ := List.mem_map.mp h
      exact ⟨p, hp, e.symm⟩
    have noff : a ∉ ts.map (·.2) := fun h => by
      obtain ⟨p, hp, e⟩ := on h
      exact nat p hp e
    have S : SqL K H a (ns.map V.int) :=
      Or.inr ⟨_, vs.toArray, _, hk, rfl, rfl, rfl, by rw [List.size_toArray, hi.length]; exact hl, by simpa using rv⟩
    have O : OnlyS H a ts := ⟨atT, fun b z => Or.inr (on (Classical.byContradiction fun h => z (off h))), fun u z => by rw [off noff] at z; cases z⟩
    refine lawS_core KI hns hb hbb hlim hg ht nt C hbm ha hr F hbind hCX O (hsp _ atT S) (fun b u z => ?_) fun z => absurd (off noff) z
    by_cases h : b ∈ ts.map (·.2)
    · obtain ⟨p, hp, rfl⟩ := on h
      rw [atT p hp] at z
      cases z
      exact ht p hp
    · rw [off h] at z
      cases z
  | none =>
    let H : Hp := fun b => if b = a then some (.frz { cls := .type "list", data := .seq vs.toArray } (.lst (ns.map V.int))) else if b ∈ ts.map (·.2) then some (.tbl #[]) else none
    have on : ∀ {b}, b ∈ ts.map (·.2) → ∃ p ∈ ts, b = p.2 := fun h => by
      obtain ⟨p, hp, e⟩ := List.mem_map.mp h
      exact ⟨p, hp, e.symm⟩
    have atA : H a = some (.frz { cls := .type "list", data := .seq vs.toArray } (.lst (ns.map V.int))) := if_pos rfl
    have atT : ∀ p ∈ ts, H p.2 = some (.tbl #[]) := fun p hp => (if_neg (Ne.symm (nat p hp))).trans (if_pos (List.mem_map.mpr ⟨p, hp, rfl⟩))
    have off : ∀ {b}, b ≠ a → b ∉ ts.map (·.2) → H b = none := fun h h' => (if_neg h).trans (if_neg h')
    have S : SqL K H a (ns.map V.int) := Or.inl (Or.inr ⟨_, atA⟩)
    have O : OnlyS H a ts := ⟨atT, fun b z => by
      by_cases h : b = a
      · exact Or.inl h
      · exact Or.inr (on (Classical.byContradiction fun h' => z (off h h'))), fun u z => by rw [atA] at z; cases z; exact ⟨_, _, rfl⟩⟩
    refine lawS_core KI hns hb hbb hlim hg ht nt C hbm ha hr F hbind hCX O (hsp _ atT S) (fun b u z => ?_) fun _ => hk
    by_cases h : b = a
    · subst h
      rw [atA] at z
      cases z
      exact ⟨ha, by rw [List.length_map]; exact hl, vs, _, rv, ha⟩
    · by_cases h' : b ∈ ts.map (·.2)
      · obtain ⟨p, hp, rfl⟩ := on h'
        rw [atT p hp] at z
        cases z
        exact ht p hp
      · rw [off h h'] at z
        cases z
end
/-- what k_head leaves, by the law's promise under CG; ts: the tables of the code objects -/
theorem walk_ofS {l : PySem.W.OpenLaw} {n k : Nat} {q : Program} {loose : List Str} {XP : (Str → Option Value) → Heap → Prop}
    {YP : World → Heap → Prop} {d : DefRec} {K : Params → PySem.W.Frag} {CX : CXT} {x : Str} {ts : List (Addr × Addr)} {sp : PySem.W.Frag → Sp}
    (hn : l.most = some n) (hn2 : n ≤ sizeLine) (hdf : d.params.defaults = []) (hr : Room k callerA)
    (hY : ∀ (w : World) (h : Heap), YP w h → (K w.params).In h)
    (hT : ∀ (w : World) (h : Heap), YP w h → ∀ p ∈ ts, h.get? p.2 = some { cls := .none, data := .fields #[] })
    (hcd : ∀ w : World, ∀ p ∈ ts, PySem.W.codeHdIn (K w.params) p.1 p.2 = true) (nt : ∀ w : World, ∀ p ∈ ts, (K w.params).lookup p.2 = none)
    (F : ∀ (w : World) (mg : Str → Option Value) (fa : Addr) (h : Heap), (K w.params).In h → h.Ns mainGlobals mg →
      mg d.name = some (.ref fa) → ∃ fd : FuncData, (∀ (s : Shared) (u : Value), BindsTo s fd ⟨[u], []⟩ [(x, u)]) ∧
        ∀ base : Heap, (K w.params).In base → base.Ns mainGlobals mg → (∀ p ∈ ts, TabB base mg p.1 p.2) →
          FnR l.prog w (K w.params) mg base CX (CG k) fa fd [x] (sp (K w.params)))
    (hsp : ∀ (K : PySem.W.Frag) (H : Hp) (a : Addr) (ns : List Int), ns.length ≤ n → (∀ p ∈ ts, H p.2 = some (.tbl #[])) → SqL K H a (ns.map V.int) →
      sp K [.ref a] H (fun v _ => v = .bl true) fun _ _ _ => False)
    (hCX : ∀ (H : Hp) (s : Shared) (e : Value) (s' : Shared), CX [] H s (fun _ _ _ => False) e s' → False) :
    PySem.W.WalkO q loose XP YP l.row.toRowW d [] (fun f vs => PySem.call f vs) := by
  refine Att.attach_call hn hdf fun w s₀ s₁ mg mb fa o pm cd doc a vs ns G Y ho hd hcd' hmg hobj hints hlen hg => ?_
  have KI := hY w _ Y
  obtain ⟨fd, hb, hF⟩ := F w mg fa _ KI G.T.g hmg
  exact law_callS KI G.T.g G.T.b G.T.builtins G.T.nolimit hg (hT w _ Y) (nt w) (fun p hp => PySem.W.codeHd_of_K KI (hcd w p hp)) G.T.bmain hobj hints (Nat.le_trans hlen hn2) hr hF hb
    (fun H hH hS => hsp (K w.params) H a ns hlen hH hS) fun H e s' => hCX H s₁ e s'
end KX

namespace KX
open PySem PySem.Spec PyProof.Rows L2
/-! the rules that name the written part, with the written part handed in -/
section
variable {X : Cx} {K : PySem.W.Frag}
theorem cr_sortedK (hK : X.K = K := by rfl) : CallR X (.builtin "sorted") (rSorted K) := by subst hK; exact cr_sorted
theorem cr_sortTK (hK : X.K = K := by rfl) : CallR X (.builtin "sorted") (rSortT K) := by subst hK; exact cr_sortT
theorem cr_sortedPOK (hK : X.K = K := by rfl) : CallR X (.builtin "sorted") (rSortedPO K) := by subst hK; exact cr_sortedPO
theorem cr_maxK (hc : X.calm = true) (hK : X.K = K := by rfl) : CallR X (.builtin "max") (rMax K) := by subst hK; exact cr_max hc
theorem cr_minK (hc : X.calm = true) (hK : X.K = K := by rfl) : CallR X (.builtin "min") (rMin K) := by subst hK; exact cr_min hc
theorem cr_sumK (hc : X.calm = true) (hK : X.K = K := by rfl) : CallR X (.builtin "sum") (rSum K) := by subst hK; exact cr_sum hc
theorem cr_allK (hc : X.calm = true) (hK : X.K = K := by rfl) : CallR X (.builtin "all") (rAll K) := by subst hK; exact cr_all hc
theorem cr_anyK (hc : X.calm = true) (hK : X.K = K := by rfl) : CallR X (.builtin "any") (rAny K) := by subst hK; exact cr_any hc
theorem cr_reprK (hg : X.A.guards = some []) (hu : X.A.units + 66 < cLine) (hK : X.K = K := by rfl) : CallR X (.builtin "repr") (rRepr K) := by subst hK; exact cr_repr hg hu
def rLenS (K : PySem.W.Frag) : List V → Hp → VK → Prop := fun xs H Q => ∃ p ys, xs = [.ref p] ∧ (SqL K H p ys ∨ SqT K H p ys) ∧ Q (.int ys.length) H
theorem cr_lenK (hK : X.K = K := by rfl) : CallR X (.builtin "len") (rLenS K) := by subst hK; exact call_len_seq
def rListS (K : PySem.W.Frag) : List V → Hp → VK → Prop := fun xs H Q => ∃ p ys, xs = [.ref p] ∧ (SqL K H p ys ∨ SqT K H p ys) ∧ ∀ l, H l = none → Q (.ref l) (upd H l (.lst ys))
theorem cr_listK (hK : X.K = K := by rfl) : CallR X (.type "list") (rListS K) := by subst hK; exact call_list_of
theorem cr_isiK (hK : X.K = K := by rfl) : CallR X (.builtin "isinstance") (rIsi K) := by subst hK; exact call_isi
theorem cr_isiTK (hK : X.K = K := by rfl) : CallR X (.builtin "isinstance") (rIsiT K) := by subst hK; exact call_isiT
theorem ix_listK (hK : X.K = K := by rfl) : IxR X (rIxL K) := by subst hK; exact ix_list
theorem ix_tupK (hK : X.K = K := by rfl) : IxR X (rIxT K) := by subst hK; exact ix_tup
theorem sl_listK (hK : X.K = K := by rfl) : SlR X (rSlL K) := by subst hK; exact sl_list
theorem op_inK (hK : X.K = K := by rfl) : OpR X (compareOp .In) (rIn K false) := by subst hK; exact op_in_seq
theorem op_notInK (hK : X.K = K := by rfl) : OpR X (compareOp .NotIn) (rIn K true) := by subst hK; exact op_notIn_seq
theorem op_eqDK (hu : X.A.units + 64 < cLine) (hK : X.K = K := by rfl) : OpR X (compareOp .Eq) (rEqD K) := by subst hK; exact op_eqD hu
theorem op_neDK (hu : X.A.units + 64 < cLine) (hK : X.K = K := by rfl) : OpR X (compareOp .NotEq) (rNeD K) := by subst hK; exact op_neD hu
theorem op_inDK (hu : X.A.units + 65 < cLine) (hK : X.K = K := by rfl) : OpR X (compareOp .In) (rInD K) := by subst hK; exact op_inD hu
theorem op_notInDK (hu : X.A.units + 65 < cLine) (hK : X.K = K := by rfl) : OpR X (compareOp .NotIn) (rNotInD K) := by subst hK; exact op_notInD hu
section
variable {tg l e a : Expr} {tl ta te to : TE} {pos p tpos cpos apos : Pos} {f : Str} {t : TA} {es : List Expr}
theorem pi_listK (hl : PE X l tl) (hK : X.K = K := by rfl) : PI X tg l (iList K tl) := by subst hK; exact pi_list hl
theorem pi_tupK (hl : PE X l tl) (hK : X.K = K := by rfl) : PI X tg l (iTup K tl) := by subst hK; exact pi_tup hl
theorem pi_enumK {elts : List Expr} {kk : Nat} (hg : Gl X "enumerate") (hm : X.mg "enumerate" = none) (ha : PA X [e] t) (hs : starEach [e] X.env = [(false, eval e X.env)] := by rfl) (hK : X.K = K := by rfl) :
    PI X (.Tuple elts kk tpos) (.Call (.Name "enumerate" p) [e] [] pos) (iEnum K t) := by subst hK; exact pi_enum hg hm ha hs
theorem pi_enumTK {elts : List Expr} {kk : Nat} (hg : Gl X "enumerate") (hm : X.mg "enumerate" = none) (ha : PA X [e] t) (hs : starEach [e] X.env = [(false, eval e X.env)] := by rfl) (hK : X.K = K := by rfl) :
    PI X (.Tuple elts kk tpos) (.Call (.Name "enumerate" p) [e] [] pos) (iEnumT K t) := by subst hK; exact pi_enumT hg hm ha hs
theorem pe_fldK (he : PE X e ta) (hb : attributeBase e f X.env (eval e X.env) = eval e X.env := by rfl) (hK : X.K = K := by rfl) : PE X (.Attribute e f pos) (tFld K ta f) := by subst hK; exact pe_fld he hb
theorem ps_fldK {o value : Expr} {pos' : Pos} {tv : TE} (ha : PE X o ta) (hv : PE X value tv) (hs : swapsWith value (some (.Attribute o f pos')) pos.line X.env = pure false := by rfl) (hK : X.K = K := by rfl) :
    PS X (.Assign [.Attribute o f pos'] value pos) (sFld K ta tv f) := by subst hK; exact ps_fld ha hv hs
theorem pe_tupleK (hg : Gl X "tuple") (hm : X.mg "tuple" = none) (ha : PE X a ta) (na : starEach [a] X.env = (false, eval a X.env) :: starEach [] X.env := by rfl) (hK : X.K = K := by rfl) :
    PE X (.Call (.Name "tuple" p) [a] [] pos) (tThen ta (kTup K)) := by subst hK; exact pe_tupleOf hg hm ha na
theorem pg_tupK {k n : Nat} {t : TGs} (hc : X.calm = true) (h : PGs X es t) (hn : (assignEach es X.env).length = n := by rfl) (hst : (assignEach es X.env).findIdx? (·.1) = none := by rfl) (hK : X.K = K := by rfl) :
    PG X (.Tuple es k pos) (gTup K n t) := by subst hK; exact pg_tup hc h hn hst
theorem pg_lstK {k n : Nat} {t : TGs} (hc : X.calm = true) (h : PGs X es t) (hn : (assignEach es X.env).length = n := by rfl) (hst : (assignEach es X.env).findIdx? (·.1) = none := by rfl) (hK : X.K = K := by rfl) :
    PG X (.Tuple es k pos) (gLst K n t) := by subst hK; exact pg_lst hc h hn hst
end
end
/-! their readings -/
section
variable {σ : L2.St} {H : Hp} {Q : VK} {K : PySem.W.Frag}
theorem rd_lenB {p : Addr} {ys : List V} (ha : SqL K H p ys ∨ SqT K H p ys) (h : Q (.int ys.length) H) : rLenS K [.ref p] H Q := ⟨p, ys, rfl, ha, h⟩
theorem rd_len {p : Addr} {ys : List V} (ha : H p = some (.lst ys)) (h : Q (.int ys.length) H) : rLenS K [.ref p] H Q := ⟨p, ys, rfl, .inl (SqL.of ha), h⟩
theorem rd_lenTup {p : Addr} {ys : List V} (ha : Tup H p ys) (h : Q (.int ys.length) H) : rLenS K [.ref p] H Q := ⟨p, ys, rfl, .inr ha.sq, h⟩
theorem rd_list {p : Addr} {ys : List V} (ha : SqL K H p ys ∨ SqT K H p ys) (h : NewO H (.lst ys) Q) : rListS K [.ref p] H Q := ⟨p, ys, rfl, ha, new_of h⟩
theorem rd_sorted {p : Addr} {ns : List Int} (ha : H p = some (.lst (ns.map V.int))) (hl : ns.length < 64) (h : ∀ ns' : List Int, ns'.Perm ns → ns'.Pairwise (· ≤ ·) → NewO H (.lst (ns'.map V.int)) Q) : rSorted K [.ref p] H Q :=
  ⟨p, ns, rfl, SqL.of ha, hl, fun ns' q hp hs hq => new_of (h ns' hp hs) q hq⟩
theorem rd_tupL {p : Addr} {xs : List V} (ha : H p = some (.lst xs)) (h : NewO H (.tup xs) Q) : kTup K (.ref p) H Q := .inl ⟨p, xs, rfl, SqL.of ha, new_of h⟩
theorem rd_tupS {p : Addr} {xs : List V} (ha : Tup H p xs) (h : Q (.ref p) H) : kTup K (.ref p) H Q := .inr ⟨p, xs, rfl, ha.sq, h⟩
theorem rd_max {p : Addr} {ns : List Int} (ha : H p = some (.lst (ns.map V.int))) (hn : 0 < ns.length) (h : ∀ m, m ∈ ns → (∀ y ∈ ns, y ≤ m) → Q (.int m) H) : rMax K [.ref p] H Q := ⟨p, ns, rfl, SqL.of ha, hn, h⟩
theorem rd_repr {x : V} {d : PyData} (hd : Dp K H x d) (h1 : d.showable = true) (h2 : d.hasDict = false) (h3 : d.depth ≤ 64) (h4 : d.shown.length ≤ sizeLine) (h : Q (.str d.shown) H) : rRepr K [x] H Q := ⟨x, d, rfl, hd, h1, h2, h3, h4, h⟩
theorem rd_eqS {a b : Str} (h : Q (.bl (decide (a = b))) H) : rEq (.str a) (.str b) H Q := by
  refine ⟨rfl, ?_⟩
  have e : decide (V.str a = V.str b) = decide (a = b) := by by_cases z : a = b <;> simp [z]
  rw [e]; exact h
theorem rd_neS {a b : Str} (h : Q (.bl (!decide (a = b))) H) : rNe (.str a) (.str b) H Q := by
  refine ⟨rfl, ?_⟩
  have e : decide (V.str a = V.str b) = decide (a = b) := by by_cases z : a = b <;> simp [z]
  rw [e]; exact h
theorem rd_ty {p : Addr} {xs : List V} {R : Prop} (ha : H p = some (.lst xs)) (h : R) : tyV K "list" (.ref p) H ∧ R := ⟨.inl ⟨rfl, _, SqL.of ha⟩, h⟩
end
section
variable {X : Cx} {K : PySem.W.Frag} {o e : Expr} {es : List Expr} {to : TE} {t : TA} {apos cpos : Pos} {name : Str} {id : String} {r : V → List V → Hp → VK → Prop}
theorem pe_bmK (slot : Slot "list" name id) (hty : typeOf (.builtin id) = pure (.type "method_descriptor")) (hm : MtR X id r) (ho : PE X o to) (ha : PA X (e :: es) t)
    (hbase : attributeBase o name X.env (eval o X.env) = eval o X.env := by rfl)
    (hfew : ((backTo cpos (starEach (e :: es) X.env)).all (fun x => !x.1) && (backToKw cpos (keywordEach [] X.env)).all (fun x => x.1.isSome)
      && decide ((e :: es).length + ([] : List Keyword).length + (if ([] : List Keyword).isEmpty then 0 else 1) < 30)) = true := by rfl)
    (hline : (apos.endLine == cpos.line) = true := by rfl) (hs : starEach (e :: es) X.env = (false, eval e X.env) :: starEach es X.env := by rfl) (hplain : (backTo cpos (starEach es X.env)).any (·.1) = false := by rfl) (hK : X.K = K := by rfl) :
    PE X (.Call (.Attribute o name apos) (e :: es) [] cpos) (tBM K "list" r to t) := by subst hK; exact pe_bm PySem.F.plainAttrs_list slot hty hm ho ha hbase hfew hline hs hplain
theorem pe_bm0K (slot : Slot "list" name id) (hty : typeOf (.builtin id) = pure (.type "method_descriptor")) (hm : MtR X id r) (ho : PE X o to)
    (hbase : attributeBase o name X.env (eval o X.env) = eval o X.env := by rfl) (hline : (apos.endLine == cpos.line) = true := by rfl) (hK : X.K = K := by rfl) : PE X (.Call (.Attribute o name apos) [] [] cpos) (tBM0 K "list" r to) := by
  subst hK; exact pe_bm0 PySem.F.plainAttrs_list slot hty hm ho hbase hline
end
/-- what isinstance asks of an own class -/
structure IsCls (K : PySem.W.Frag) (C : Addr) : Prop where
  cl : Cls K C
  ha : PySem.W.findIn K (.ref C) "__class__" = some (some (.builtin "object.__class__"))
  hn : PySem.W.specialIn K (.builtin "object.__class__") "__get__" = some (some (.builtin "getset_descriptor.__get__"))
  ht : PySem.W.takesIn K (.builtin "object.__class__") = some true
  hm : PySem.W.mroIn K C (.type "object") = some true
  kit : PySem.W.kitOne K (.ref C) (.ref C) = some true
theorem IsCls.ty {K : PySem.W.Frag} {C : Addr} (h : IsCls K C) {H : Hp} {a dx : Addr} {fs : List (Str × V)} (e : H a = some (.ins C dx fs)) : TyX K H (.ref a) (.ref C) :=
  .base (.ins e h.cl h.ha h.hn h.ht h.hm)
/-! data: ints and pairs of ints -/
theorem dA_ints (K : PySem.W.Frag) (H : Hp) : ∀ ns : List Int, DpAll K H (ns.map V.int) (ns.map PyData.int)
  | [] => .nil
  | n :: ns => .cons (.int n) (dA_ints K H ns)
theorem dA_lay : ∀ ns : List Int, PyData.canLayAll0 (ns.map PyData.int) = true
  | [] => rfl
  | n :: ns => by
    show (PyData.canLay0 (.int n) && PyData.canLayAll0 (ns.map PyData.int)) = true
    rw [dA_lay ns]; rfl
theorem dA_dep : ∀ ns : List Int, PyData.depthAll (ns.map PyData.int) ≤ 1
  | [] => by decide
  | n :: ns => by
    have h := dA_dep ns
    show max (PyData.depth (.int n)) (PyData.depthAll (ns.map PyData.int)) ≤ 1
    have h1 : PyData.depth (.int n) = 0 := rfl
    rw [h1]; omega
theorem dA_sh (ns : List Int) : SeqAt.shaped (.tuple (ns.map PyData.int)) = true := by
  have h := dA_dep ns
  have h1 : PyData.depth (.tuple (ns.map PyData.int)) = PyData.depthAll (ns.map PyData.int) + 1 := rfl
  unfold SeqAt.shaped
  have h2 : PyData.canLay0 (.tuple (ns.map PyData.int)) = PyData.canLayAll0 (ns.map PyData.int) := rfl
  rw [h2, dA_lay, h1, Bool.true_and]
  exact decide_eq_true (by omega)
theorem dA_eqv : ∀ ns ms : List Int, PyData.eqvAll (ns.map PyData.int) (ms.map PyData.int) = decide (ns = ms)
  | [], [] => rfl
  | [], m :: ms => by simp [PyData.eqvAll]
  | n :: ns, [] => by simp [PyData.eqvAll]
  | n :: ns, m :: ms => by
    show ((n == m) && PyData.eqvAll (ns.map PyData.int) (ms.map PyData.int)) = _
    rw [dA_eqv ns ms]
    by_cases h1 : n = m
    · by_cases h2 : ns = ms <;> simp [h1, h2]
    · simp [h1]
def dP (e : Int × Int) : PyData := .tuple [.int e.1, .int e.2]
theorem dP_lay : ∀ L : List (Int × Int), PyData.canLayAll0 (L.map dP) = true
  | [] => rfl
  | n :: ns => by
    show (PyData.canLay0 (dP n) && PyData.canLayAll0 (ns.map dP)) = true
    rw [dP_lay ns]; rfl
theorem dP_dep : ∀ L : List (Int × Int), PyData.depthAll (L.map dP) ≤ 2
  | [] => by decide
  | n :: ns => by
    have h := dP_dep ns
    show max (PyData.depth (dP n)) (PyData.depthAll (ns.map dP)) ≤ 2
    have h1 : PyData.depth (dP n) = 1 := rfl
    rw [h1]; omega
theorem dP_shT (L : List (Int × Int)) : SeqAt.shaped (.tuple (L.map dP)) = true := by
  have h := dP_dep L
  have h1 : PyData.depth (.tuple (L.map dP)) = PyData.depthAll (L.map dP) + 1 := rfl
  unfold SeqAt.shaped
  have h2 : PyData.canLay0 (.tuple (L.map dP)) = PyData.canLayAll0 (L.map dP) := rfl
  rw [h2, dP_lay, h1, Bool.true_and]
  exact decide_eq_true (by omega)
theorem dP_shL (L : List (Int × Int)) : SeqAt.shaped (.list (L.map dP)) = true := by
  have h := dP_dep L
  have h1 : PyData.depth (.list (L.map dP)) = PyData.depthAll (L.map dP) + 1 := rfl
  unfold SeqAt.shaped
  have h2 : PyData.canLay0 (.list (L.map dP)) = PyData.canLayAll0 (L.map dP) := rfl
  rw [h2, dP_lay, h1, Bool.true_and]
  exact decide_eq_true (by omega)
theorem dP_sh1 (e : Int × Int) : SeqAt.shaped (dP e) = true := rfl
theorem dP_eqv1 (e f : Int × Int) : PyData.eqv (dP e) (dP f) = decide (e = f) := by
  obtain ⟨a, b⟩ := e
  obtain ⟨c, d⟩ := f
  show ((a == c) && ((b == d) && true)) = _
  by_cases h1 : a = c
  · by_cases h2 : b = d <;> simp [h1, h2]
  · simp [h1]
theorem dP_eqv : ∀ L M : List (Int × Int), PyData.eqvAll (L.map dP) (M.map dP) = decide (L = M)
  | [], [] => rfl
  | [], m :: ms => by simp [PyData.eqvAll]
  | n :: ns, [] => by simp [PyData.eqvAll]
  | n :: ns, m :: ms => by
    show (PyData.eqv (dP n) (dP m) && PyData.eqvAll (ns.map dP) (ms.map dP)) = _
    rw [dP_eqv ns ms, dP_eqv1]
    by_cases h1 : n = m
    · by_cases h2 : ns = ms <;> simp [h1, h2]
    · simp [h1]
theorem dP_any (e : Int × Int) (L : List (Int × Int)) : ((L.map dP).any fun z => PyData.eqv z (dP e)) = decide (e ∈ L) := by
  induction L with
  | nil => rfl
  | cons x L ih =>
    rw [List.map_cons, List.any_cons, ih, dP_eqv1]
    by_cases h : x = e
    · simp [h]
    · have h' : ¬ e = x := fun z => h z.symm
      simp [h, h']
theorem Room.u65 {k : Nat} {A : Around} (r : Room k A) : A.units + 65 < cLine := by have := r.un; omega
theorem Room.u66 {k : Nat} {A : Around} (r : Room k A) : A.units + 66 < cLine := by have := r.un; omega
end KX

namespace KX
open PySem PySem.Spec PyProof.Rows L2
/-! comprehensions whose values are told ahead -/
theorem same_put {H H' : Hp} {D : Addr} {o : HO} (s : Same H H') (n : H D = none) : Same H (L2.upd H' D o) := fun c u h => by
  rw [upd_ne (fun z => by rw [z, n] at h; cases h)]
  exact s c u h
section
variable {K : PySem.W.Frag} {g : TG} {te : TE} {vs : List Nat} {σ : L2.St} {H1 : Hp} {D : Addr} {Qd : Hp → Prop}
/-- at the end of a turn: the value told, the heap extended -/
theorem lcv_put {zs : List V} (hz : zs.length < 1000000) {i : Nat} {z : V} {H' H4 : Hp} (hD : H1 D = none) (hz' : zs[i]? = some z) (S : Same H1 H') (hH : H' D = some (.lst (zs.take i))) (S4 : Same H' H4) :
    ∃ acc, H4 D = some (.lst acc) ∧ acc.length < sizeLine ∧ (Same H1 (upd H4 D (.lst (acc ++ [z]))) ∧ upd H4 D (.lst (acc ++ [z])) D = some (.lst (zs.take (i + 1)))) := by
  refine ⟨_, S4 _ _ hH, ?_, same_put (fun c u h => S4 _ _ (S _ _ h)) hD, ?_⟩
  · rw [List.length_take]
    exact Nat.lt_of_le_of_lt (Nat.min_le_right _ _) (Nat.lt_of_lt_of_le hz (by decide))
  · rw [upd_same, List.take_succ, hz']; rfl
theorem yes_eq {R : L2.St → VK} {A : L2.St → Prop} {N : Hp → Prop} : (fun (σ2 : L2.St) (H2 : Hp) => A σ2 ∧ tYes σ2 H2 fun b H3 => if b = true then te σ2 H3 (R σ2) else N H3) = fun σ2 H2 => A σ2 ∧ te σ2 H2 (R σ2) := by
  funext σ2 H2
  show (A σ2 ∧ if true = true then te σ2 H2 (R σ2) else N H2) = _
  rw [if_pos rfl]
/-- over any walk that leaves the heap as it is -/
theorem lcv_wk {J : It} {n : Nat} {G : Hp → Prop} {f : Nat → V} (zs : List V) (w : Walk J n G fun i H v H' => H' = H ∧ v = f i) (lz : zs.length = n) (hz : zs.length < 1000000) (hD : H1 D = none) (keep : ∀ H', Same H1 H' → G H')
    (hs : ∀ (i : Nat) (z : V) (H' : Hp), i < n → zs[i]? = some z → Same H1 H' → ∀ R : VK, (∀ H4, Same H' H4 → R z H4) → g (f i) (wipe σ vs) H' fun σ2 H2 => wipe σ2 vs = wipe σ vs ∧ te σ2 H2 R)
    (hd : ∀ H', Same H1 H' → H' D = some (.lst zs) → Qd H') :
    ∃ W : Nat → Nat → Hp → Prop, (∃ m, W 0 m (upd H1 D (.lst []))) ∧ ∀ i m H, W i m H →
      (J.stop i H ∧ Qd H) ∨ (J.go i H ∧ ∃ Nx : Hp → Prop, (∀ H', Nx H' → ∃ m', m' < m ∧ W (i + 1) m' H') ∧ ∀ x H', J.yld i H x H' → g x (wipe σ vs) H' fun σ2 H2 => wipe σ2 vs = wipe σ vs ∧ tYes σ2 H2 fun b H3 =>
        if b = true then te σ2 H3 fun y H4 => ∃ acc, H4 D = some (.lst acc) ∧ acc.length < sizeLine ∧ Nx (upd H4 D (.lst (acc ++ [y]))) else Nx H3) := by
  refine lc_it w (fun i H' => Same H1 H' ∧ H' D = some (.lst (zs.take i))) ⟨Same.fresh hD, upd_same⟩ (fun i H' _ p => keep H' p.1) (fun i x H' H'' hi p y => ?_) (fun H' p => ?_)
  · obtain ⟨S, hH⟩ := p
    obtain ⟨rfl, rfl⟩ := y
    have hz' : zs[i]? = some zs[i] := List.getElem?_eq_getElem (by omega)
    rw [yes_eq (R := fun _ y H4 => ∃ acc, H4 D = some (.lst acc) ∧ acc.length < sizeLine ∧ (Same H1 (upd H4 D (.lst (acc ++ [y]))) ∧ upd H4 D (.lst (acc ++ [y])) D = some (.lst (zs.take (i + 1)))))]
    exact hs i _ _ hi hz' S _ fun H4 S4 => lcv_put hz hD hz' S hH S4
  · obtain ⟨S, hH⟩ := p
    rw [← lz, List.take_length] at hH
    exact hd H' S hH
end
section
variable {K : PySem.W.Frag} {g : TG} {te : TE} {vs : List Nat} {σ : L2.St} {H1 : Hp} {D : Addr} {Qd : Hp → Prop}
theorem lcv_list {a : Addr} {xs : List V} (zs : List V) (ha : H1 a = some (.lst xs)) (lz : zs.length = xs.length) (hz : zs.length < 1000000) (hD : H1 D = none)
    (hs : ∀ (i : Nat) (x z : V) (H' : Hp), xs[i]? = some x → zs[i]? = some z → Same H1 H' → ∀ R : VK, (∀ H4, Same H' H4 → R z H4) → g x (wipe σ vs) H' fun σ2 H2 => wipe σ2 vs = wipe σ vs ∧ te σ2 H2 R)
    (hd : ∀ H', Same H1 H' → H' D = some (.lst zs) → Qd H') :
    ∃ W : Nat → Nat → Hp → Prop, (∃ m, W 0 m (upd H1 D (.lst []))) ∧ ∀ i m H, W i m H →
      ((Itl K a).stop i H ∧ Qd H) ∨ ((Itl K a).go i H ∧ ∃ Nx : Hp → Prop, (∀ H', Nx H' → ∃ m', m' < m ∧ W (i + 1) m' H') ∧ ∀ x H', (Itl K a).yld i H x H' → g x (wipe σ vs) H' fun σ2 H2 => wipe σ2 vs = wipe σ vs ∧ tYes σ2 H2 fun b H3 =>
        if b = true then te σ2 H3 fun y H4 => ∃ acc, H4 D = some (.lst acc) ∧ acc.length < sizeLine ∧ Nx (upd H4 D (.lst (acc ++ [y]))) else Nx H3) := by
  refine lcv_wk (n := xs.length) (G := fun H => SqL K H a xs) (f := fun i => xs.getD i .non) zs ((walk_list).mono (fun _ h => h) fun i H x H' hi _ y => ⟨y.1, ?_⟩) lz hz hD (fun H' S => SqL.of (S _ _ ha)) (fun i z H' hi hz' S => ?_) hd
  · rw [List.getD_eq_getElem?_getD, y.2]; rfl
  · have e : xs[i]? = some (xs.getD i .non) := by rw [List.getD_eq_getElem?_getD, List.getElem?_eq_getElem hi]; rfl
    exact hs i _ z H' e hz' S
theorem lcv_tup {a : Addr} {xs : List V} (zs : List V) (ha : Tup H1 a xs) (lz : zs.length = xs.length) (hz : zs.length < 1000000) (hD : H1 D = none)
    (hs : ∀ (i : Nat) (x z : V) (H' : Hp), xs[i]? = some x → zs[i]? = some z → Same H1 H' → ∀ R : VK, (∀ H4, Same H' H4 → R z H4) → g x (wipe σ vs) H' fun σ2 H2 => wipe σ2 vs = wipe σ vs ∧ te σ2 H2 R)
    (hd : ∀ H', Same H1 H' → H' D = some (.lst zs) → Qd H') :
    ∃ W : Nat → Nat → Hp → Prop, (∃ m, W 0 m (upd H1 D (.lst []))) ∧ ∀ i m H, W i m H →
      ((Itt K a).stop i H ∧ Qd H) ∨ ((Itt K a).go i H ∧ ∃ Nx : Hp → Prop, (∀ H', Nx H' → ∃ m', m' < m ∧ W (i + 1) m' H') ∧ ∀ x H', (Itt K a).yld i H x H' → g x (wipe σ vs) H' fun σ2 H2 => wipe σ2 vs = wipe σ vs ∧ tYes σ2 H2 fun b H3 =>
        if b = true then te σ2 H3 fun y H4 => ∃ acc, H4 D = some (.lst acc) ∧ acc.length < sizeLine ∧ Nx (upd H4 D (.lst (acc ++ [y]))) else Nx H3) := by
  refine lcv_wk (n := xs.length) (G := fun H => SqT K H a xs) (f := fun i => xs.getD i .non) zs ((walk_tup).mono (fun _ h => h) fun i H x H' hi _ y => ⟨y.1, ?_⟩) lz hz hD (fun H' S => (ha.same S).sq) (fun i z H' hi hz' S => ?_) hd
  · rw [List.getD_eq_getElem?_getD, y.2]; rfl
  · have e : xs[i]? = some (xs.getD i .non) := by rw [List.getD_eq_getElem?_getD, List.getElem?_eq_getElem hi]; rfl
    exact hs i _ z H' e hz' S
theorem walk_rng {lo : Int} {n : Nat} : Walk (Itr lo n) n (fun _ => True) (fun i H v H' => H' = H ∧ v = .int (lo + i)) :=
  ⟨fun i _ hi _ => hi, fun _ _ => Nat.le_refl _, fun _ _ _ _ _ _ y => ⟨y.1, y.2⟩⟩
theorem lcv_rng {lo : Int} {n : Nat} (zs : List V) (lz : zs.length = n) (hz : zs.length < 1000000) (hD : H1 D = none)
    (hs : ∀ (i : Nat) (z : V) (H' : Hp), i < n → zs[i]? = some z → Same H1 H' → ∀ R : VK, (∀ H4, Same H' H4 → R z H4) → g (.int (lo + i)) (wipe σ vs) H' fun σ2 H2 => wipe σ2 vs = wipe σ vs ∧ te σ2 H2 R)
    (hd : ∀ H', Same H1 H' → H' D = some (.lst zs) → Qd H') :
    ∃ W : Nat → Nat → Hp → Prop, (∃ m, W 0 m (upd H1 D (.lst []))) ∧ ∀ i m H, W i m H →
      ((Itr lo n).stop i H ∧ Qd H) ∨ ((Itr lo n).go i H ∧ ∃ Nx : Hp → Prop, (∀ H', Nx H' → ∃ m', m' < m ∧ W (i + 1) m' H') ∧ ∀ x H', (Itr lo n).yld i H x H' → g x (wipe σ vs) H' fun σ2 H2 => wipe σ2 vs = wipe σ vs ∧ tYes σ2 H2 fun b H3 =>
        if b = true then te σ2 H3 fun y H4 => ∃ acc, H4 D = some (.lst acc) ∧ acc.length < sizeLine ∧ Nx (upd H4 D (.lst (acc ++ [y]))) else Nx H3) :=
  lcv_wk (n := n) (G := fun _ => True) (f := fun i => .int (lo + i)) zs walk_rng lz hz hD (fun _ _ => trivial) hs hd
end
/-! with a filter: what stays is told by f over a list beside the walk -/
section
variable {K : PySem.W.Frag} {g : TG} {tt : TT} {te : TE} {vs : List Nat} {σ : L2.St} {H1 : Hp} {D : Addr} {Qd : Hp → Prop}
theorem lcf_wk {α : Type} {J : It} {n : Nat} {G : Hp → Prop} {v : Nat → V} (es : List α) (f : α → Option V) (w : Walk J n G fun i H x H' => H' = H ∧ x = v i) (le : es.length = n) (hz : n < 1000000) (hD : H1 D = none) (keep : ∀ H', Same H1 H' → G H')
    (hs : ∀ (i : Nat) (e : α) (H' : Hp), i < n → es[i]? = some e → Same H1 H' → ∀ (R : VK) (N : Hp → Prop), (∀ z H4, f e = some z → Same H' H4 → R z H4) → (∀ H4, f e = none → Same H' H4 → N H4) →
      g (v i) (wipe σ vs) H' fun σ2 H2 => wipe σ2 vs = wipe σ vs ∧ tt σ2 H2 fun b H3 => if b = true then te σ2 H3 R else N H3)
    (hd : ∀ H', Same H1 H' → H' D = some (.lst (es.filterMap f)) → Qd H') :
    ∃ W : Nat → Nat → Hp → Prop, (∃ m, W 0 m (upd H1 D (.lst []))) ∧ ∀ i m H, W i m H →
      (J.stop i H ∧ Qd H) ∨ (J.go i H ∧ ∃ Nx : Hp → Prop, (∀ H', Nx H' → ∃ m', m' < m ∧ W (i + 1) m' H') ∧ ∀ x H', J.yld i H x H' → g x (wipe σ vs) H' fun σ2 H2 => wipe σ2 vs = wipe σ vs ∧ tt σ2 H2 fun b H3 =>
        if b = true then te σ2 H3 fun y H4 => ∃ acc, H4 D = some (.lst acc) ∧ acc.length < sizeLine ∧ Nx (upd H4 D (.lst (acc ++ [y]))) else Nx H3) := by
  refine lc_it w (fun i H' => Same H1 H' ∧ H' D = some (.lst ((es.take i).filterMap f))) ⟨Same.fresh hD, upd_same⟩ (fun i H' _ p => keep H' p.1) (fun i x H' H'' hi p y => ?_) (fun H' p => ?_)
  · obtain ⟨S, hH⟩ := p
    obtain ⟨rfl, rfl⟩ := y
    have he : es[i]? = some es[i] := List.getElem?_eq_getElem (by omega)
    have tk : (es.take (i + 1)).filterMap f = (es.take i).filterMap f ++ (f es[i]).toList := by
      rw [List.take_succ, he, List.filterMap_append]
      congr 1
    refine hs i _ _ hi he S _ _ (fun z H4 hf S4 => ?_) (fun H4 hf S4 => ?_)
    · refine ⟨_, S4 _ _ hH, ?_, same_put (fun c u h => S4 _ _ (S _ _ h)) hD, ?_⟩
      · have h1 := List.length_filterMap_le f (es.take i)
        have h2 : (es.take i).length ≤ es.length := by rw [List.length_take]; omega
        exact Nat.lt_of_lt_of_le (by omega : ((es.take i).filterMap f).length < 1000000) (by decide)
      · rw [upd_same, tk, hf]; rfl
    · refine ⟨fun c u h => S4 _ _ (S _ _ h), ?_⟩
      rw [tk, hf]
      simpa using S4 _ _ hH
  · obtain ⟨S, hH⟩ := p
    rw [← le, List.take_length] at hH
    exact hd H' S hH
theorem lcf_list {α : Type} {a : Addr} {xs : List V} (es : List α) (f : α → Option V) (ha : H1 a = some (.lst xs)) (le : es.length = xs.length) (hz : xs.length < 1000000) (hD : H1 D = none)
    (hs : ∀ (i : Nat) (x : V) (e : α) (H' : Hp), xs[i]? = some x → es[i]? = some e → Same H1 H' → ∀ (R : VK) (N : Hp → Prop), (∀ z H4, f e = some z → Same H' H4 → R z H4) → (∀ H4, f e = none → Same H' H4 → N H4) →
      g x (wipe σ vs) H' fun σ2 H2 => wipe σ2 vs = wipe σ vs ∧ tt σ2 H2 fun b H3 => if b = true then te σ2 H3 R else N H3)
    (hd : ∀ H', Same H1 H' → H' D = some (.lst (es.filterMap f)) → Qd H') :
    ∃ W : Nat → Nat → Hp → Prop, (∃ m, W 0 m (upd H1 D (.lst []))) ∧ ∀ i m H, W i m H →
      ((Itl K a).stop i H ∧ Qd H) ∨ ((Itl K a).go i H ∧ ∃ Nx : Hp → Prop, (∀ H', Nx H' → ∃ m', m' < m ∧ W (i + 1) m' H') ∧ ∀ x H', (Itl K a).yld i H x H' → g x (wipe σ vs) H' fun σ2 H2 => wipe σ2 vs = wipe σ vs ∧ tt σ2 H2 fun b H3 =>
        if b = true then te σ2 H3 fun y H4 => ∃ acc, H4 D = some (.lst acc) ∧ acc.length < sizeLine ∧ Nx (upd H4 D (.lst (acc ++ [y]))) else Nx H3) := by
  refine lcf_wk (n := xs.length) (G := fun H => SqL K H a xs) (v := fun i => xs.getD i .non) es f ((walk_list).mono (fun _ h => h) fun i H x H' hi _ y => ⟨y.1, ?_⟩) le hz hD (fun H' S => SqL.of (S _ _ ha)) (fun i e H' hi he S => ?_) hd
  · rw [List.getD_eq_getElem?_getD, y.2]; rfl
  · have e' : xs[i]? = some (xs.getD i .non) := by rw [List.getD_eq_getElem?_getD, List.getElem?_eq_getElem hi]; rfl
    exact hs i _ e H' e' he S
theorem lcf_tup {α : Type} {a : Addr} {xs : List V} (es : List α) (f : α → Option V) (ha : Tup H1 a xs) (le : es.length = xs.length) (hz : xs.length < 1000000) (hD : H1 D = none)
    (hs : ∀ (i : Nat) (x : V) (e : α) (H' : Hp), xs[i]? = some x → es[i]? = some e → Same H1 H' → ∀ (R : VK) (N : Hp → Prop), (∀ z H4, f e = some z → Same H' H4 → R z H4) → (∀ H4, f e = none → Same H' H4 → N H4) →
      g x (wipe σ vs) H' fun σ2 H2 => wipe σ2 vs = wipe σ vs ∧ tt σ2 H2 fun b H3 => if b = true then te σ2 H3 R else N H3)
    (hd : ∀ H', Same H1 H' → H' D = some (.lst (es.filterMap f)) → Qd H') :
    ∃ W : Nat → Nat → Hp → Prop, (∃ m, W 0 m (upd H1 D (.lst []))) ∧ ∀ i m H, W i m H →
      ((Itt K a).stop i H ∧ Qd H) ∨ ((Itt K a).go i H ∧ ∃ Nx : Hp → Prop, (∀ H', Nx H' → ∃ m', m' < m ∧ W (i + 1) m' H') ∧ ∀ x H', (Itt K a).yld i H x H' → g x (wipe σ vs) H' fun σ2 H2 => wipe σ2 vs = wipe σ vs ∧ tt σ2 H2 fun b H3 =>
        if b = true then te σ2 H3 fun y H4 => ∃ acc, H4 D = some (.lst acc) ∧ acc.length < sizeLine ∧ Nx (upd H4 D (.lst (acc ++ [y]))) else Nx H3) := by
  refine lcf_wk (n := xs.length) (G := fun H => SqT K H a xs) (v := fun i => xs.getD i .non) es f ((walk_tup).mono (fun _ h => h) fun i H x H' hi _ y => ⟨y.1, ?_⟩) le hz hD (fun H' S => (ha.same S).sq) (fun i e H' hi he S => ?_) hd
  · rw [List.getD_eq_getElem?_getD, y.2]; rfl
  · have e' : xs[i]? = some (xs.getD i .non) := by rw [List.getD_eq_getElem?_getD, List.getElem?_eq_getElem hi]; rfl
    exact hs i _ e H' e' he S
end
/-! enumerate in a for -/
section
variable {K : PySem.W.Frag} {g : TG} {tb : TS} {D : Ends} {σ : L2.St} {H : Hp} {a : Addr} {xs : List V}
theorem for_enumL (Pv : Nat → L2.St → Hp → Prop) (h0 : Pv 0 σ H) (hl : ∀ i σ H', Pv i σ H' → SqL K H' a xs)
    (hs : ∀ i y σ H' T H2, xs[i]? = some y → Pv i σ H' → H' T = none → Same H' H2 → H2 T = some (.tup [.int (i : Nat), y]) → g (.ref T) σ H2 fun σ3 H3 => tb { D with nx := Pv (i + 1), ct := Pv (i + 1), bk := D.nx } σ3 H3)
    (hd : ∀ σ H', Pv xs.length σ H' → D.nx σ H') :
    ∃ W : Nat → Nat → L2.St → Hp → Prop, (∃ m, W 0 m σ H) ∧ ∀ i m σ H, W i m σ H →
      ((Ite K a).stop i H ∧ D.nx σ H) ∨ ((Ite K a).go i H ∧ ∃ N : L2.St → Hp → Prop, (∀ σ' H', N σ' H' → ∃ m', m' < m ∧ W (i + 1) m' σ' H') ∧ ∀ x H', (Ite K a).yld i H x H' → g x σ H' fun σ2 H2 => tb { D with nx := N, ct := N, bk := D.nx } σ2 H2) :=
  for_it (walk_enum (K := K) (xs := xs)) Pv h0 (fun i σ H' _ p => hl i σ H' p) (fun i v σ H1 H2 _ hp y => by
    obtain ⟨T, b, c, rfl, hT, rfl, hb, hc⟩ := y
    have hb : some (V.int (i : Nat)) = some b := hb
    cases hb
    exact hs i c σ H1 T _ hc hp hT (Same.fresh hT) upd_same) hd
theorem for_enumTu (Pv : Nat → L2.St → Hp → Prop) (h0 : Pv 0 σ H) (hl : ∀ i σ H', Pv i σ H' → SqT K H' a xs)
    (hs : ∀ i y σ H' T H2, xs[i]? = some y → Pv i σ H' → H' T = none → Same H' H2 → H2 T = some (.tup [.int (i : Nat), y]) → g (.ref T) σ H2 fun σ3 H3 => tb { D with nx := Pv (i + 1), ct := Pv (i + 1), bk := D.nx } σ3 H3)
    (hd : ∀ σ H', Pv xs.length σ H' → D.nx σ H') :
    ∃ W : Nat → Nat → L2.St → Hp → Prop, (∃ m, W 0 m σ H) ∧ ∀ i m σ H, W i m σ H →
      ((Itn K a).stop i H ∧ D.nx σ H) ∨ ((Itn K a).go i H ∧ ∃ N : L2.St → Hp → Prop, (∀ σ' H', N σ' H' → ∃ m', m' < m ∧ W (i + 1) m' σ' H') ∧ ∀ x H', (Itn K a).yld i H x H' → g x σ H' fun σ2 H2 => tb { D with nx := N, ct := N, bk := D.nx } σ2 H2) :=
  for_it (walk_enumT (K := K) (xs := xs)) Pv h0 (fun i σ H' _ p => hl i σ H' p) (fun i v σ H1 H2 _ hp y => by
    obtain ⟨T, b, c, rfl, hT, rfl, hb, hc⟩ := y
    have hb : some (V.int (i : Nat)) = some b := hb
    cases hb
    exact hs i c σ H1 T _ hc hp hT (Same.fresh hT) upd_same) hd
end
end KX

namespace KX
open PySem PySem.Spec PyProof.Rows L2
/-! t[::-1] of a tuple -/
section
variable {prog : Program} {w : World} {A : Around} {E : Value → Shared → Prop} {s : Shared}
theorem places_back (n : Nat) : Builtin.Slice.slicePlaces ((n : Int) - 1) (-1) (-1) = n := by
  unfold Builtin.Slice.slicePlaces
  have h1 : ¬ ((-1 : Int) > 0) := by omega
  have e : -(-1 : Int) = 1 := by decide
  simp only [h1, if_false, e, Int.ediv_one]
  split <;> omega
theorem applied_back {sl : Addr} {vl vu vs : Value} {n : Nat} {Q : Int × Int × Nat → Shared → Prop} (hs : s.heap.IsSliceOf sl vl vu vs) (pl : IsPart vl none) (pu : IsPart vu none) (ps : IsPart vs (some (-1)))
    (h : Q (((n : Int) - 1), -1, n) s) : wpAny (model prog w) A (Builtin.Slice.sliceApplied (.ref sl) (pure (n : Int))) Q E s := by
  obtain ⟨os, hos, hcs, hds⟩ := id hs
  unfold Builtin.Slice.sliceApplied Builtin.Slice.sliceFields
  refine wpAny_bind (wpAny_bind (wpAny_field hos hds (x := vl) rfl (wpAny_bind (wpAny_field hos hds (x := vu) rfl (wpAny_bind (wpAny_field hos hds (x := vs) rfl (wpAny_pure ?_)))))))
  refine wpAny_bind (HT.slicePart_ ps ?_)
  show wpAny _ _ (if ((-1 : Int) == 0) = true then _ else _) _ _ s
  rw [if_neg (by decide)]
  refine wpAny_bind (HT.slicePart_ pl (wpAny_bind (HT.slicePart_ pu (wpAny_bind (wpAny_pure ?_)))))
  have e : Builtin.Slice.sliceAdjust none none (-1) (n : Int) = ((n : Int) - 1, -1) := by
    unfold Builtin.Slice.sliceAdjust
    simp
  show wpAny _ _ (match Builtin.Slice.sliceAdjust none none (-1) (n : Int) with | (lo, hi) => pure (lo, (-1 : Int), Builtin.Slice.slicePlaces lo hi (-1))) _ _ s
  rw [e]
  show wpAny _ _ (pure ((n : Int) - 1, (-1 : Int), Builtin.Slice.slicePlaces ((n : Int) - 1) (-1) (-1))) _ _ s
  rw [places_back]
  exact wpAny_pure h
theorem pick_back (xs : Array Value) : ((List.range xs.size).filterMap fun (m : Nat) => xs[(((xs.size : Nat) : Int) - 1 + (m : Int) * (-1)).toNat]?).toArray = xs.toList.reverse.toArray := by
  congr 1
  have e : ∀ m ∈ List.range xs.size, xs[(((xs.size : Nat) : Int) - 1 + (m : Int) * (-1)).toNat]? = xs[xs.size - 1 - m]? := fun m hm => by
    have := List.mem_range.mp hm
    have e : (((xs.size : Nat) : Int) - 1 + (m : Int) * (-1)).toNat = xs.size - 1 - m := by omega
    rw [e]
  have e2 : ((List.range xs.size).filterMap fun (m : Nat) => xs[(((xs.size : Nat) : Int) - 1 + (m : Int) * (-1)).toNat]?) = (List.range xs.size).filterMap fun m => xs[xs.size - 1 - m]? := by
    have gen : ∀ l : List Nat, (∀ m ∈ l, m ∈ List.range xs.size) → (l.filterMap fun (m : Nat) => xs[(((xs.size : Nat) : Int) - 1 + (m : Int) * (-1)).toNat]?) = l.filterMap fun m => xs[xs.size - 1 - m]? := by
      intro l
      induction l with
      | nil => intro _; rfl
      | cons a l ih =>
        intro h
        rw [List.filterMap_cons, List.filterMap_cons, e a (h a List.mem_cons_self), ih fun m hm => h m (List.mem_cons_of_mem _ hm)]
    exact gen _ fun _ h => h
  rw [e2]
  have e3 := PySem.W.krv_range xs.size
  have e4 : ((List.range xs.size).filterMap fun m => xs[xs.size - 1 - m]?) = ((List.range xs.size).map fun k => xs.size - 1 - k).filterMap fun k => xs[k]? := by
    rw [List.filterMap_map]; rfl
  rw [e4, e3, List.filterMap_reverse]
  congr 1
  exact PySem.W.krv_all xs
theorem getItem_tuple_back {t sl : Addr} {items : Array Value} {vl vu vs : Value} {Q : Value → Shared → Prop} (ht : IsTup s.heap t items) (hs : s.heap.IsSliceOf sl vl vu vs) (pl : IsPart vl none) (pu : IsPart vu none) (ps : IsPart vs (some (-1)))
    (h : Q (.ref s.heap.objs.size) { s with heap := s.heap.push { cls := .type "tuple", data := .seq items.toList.reverse.toArray } })
    (hsz : items.size ≤ sizeLine) : wpAny (model prog w) A (getItem (.ref t) (.ref sl)) Q E s := by
  have htake : sizeOk (.seq items.toList.reverse.toArray) := by
    show items.toList.reverse.toArray.size ≤ sizeLine
    rw [List.size_toArray, List.length_reverse, Array.length_toList]
    exact hsz
  obtain ⟨os, hos, hcs, hds⟩ := id hs
  have hTs : s.TypeIs (.ref sl) "slice" := ⟨os, hos, hcs⟩
  unfold getItem
  try with_reducible refine wpAny_holding ?_
  first | refine wpAny_bind (wpAny_pure ?_) | skip
  refine wpAny_bind (wpAny_sequenceKey ht.typeIs (by decide) ?_)
  refine wpAny_bind (wpAny_callSpecial?_slot (name := Str.ofString "__getitem__") ht.typeIs PyProof.Rows.slot_tuple_getitem
    (wpAny_call_entry PyProof.Rows.slot_tuple_getitem ht.typeIs entry_tuple_getitem ?_ (args_tuple_getitem _ _)))
  show wpAny _ _ (Builtin.Tuple.tupleItemsOf (.ref t) >>= _) _ _ s
  refine wpAny_bind (tupleItemsOf_ ht ?_)
  refine wpAny_bind (wpAny_typeOf hTs ?_)
  rw [if_pos (by decide)]
  refine wpAny_bind (applied_back (n := items.size) hs pl pu ps ?_)
  have hno : ¬ ((((items.size : Nat) : Int) - 1 == 0 && (-1 : Int) == 1 && items.size == items.size) = true) := by
    intro q
    rw [Bool.and_eq_true, Bool.and_eq_true] at q
    exact absurd q.1.2 (by decide)
  show wpAny _ _ (if (((items.size : Nat) : Int) - 1 == 0 && (-1 : Int) == 1 && items.size == items.size) = true then _ else _) _ _ s
  rw [if_neg hno, pick_back]
  first
    | exact wpAny_bind (m := Builtin.Tuple.tupleExact _) (wpAny_newObj_type (wpAny_pure ⟨_, rfl, wpAny_pure h⟩) htake)
    | exact wpAny_bind (m := Builtin.Tuple.tupleExact _) (wpAny_newObj_type (wpAny_bind (wpAny_pure (wpAny_pure ⟨_, rfl, wpAny_pure h⟩))) htake)
    | exact wpAny_bind (wpAny_bind (m := Builtin.Tuple.tupleExact _) (wpAny_newObj_type (wpAny_pure (wpAny_pure ⟨_, rfl, wpAny_pure h⟩)) htake))
    | exact wpAny_bind (wpAny_bind (m := Builtin.Tuple.tupleExact _) (wpAny_newObj_type (wpAny_pure ⟨_, rfl, wpAny_pure h⟩) htake))
end
section
variable {X : Cx} {K : PySem.W.Frag}
/-- t[::-1] -/
def tRevT (K : PySem.W.Frag) (te : TE) : TE := fun σ H Q => te σ H fun x H1 => ∃ a xs, x = .ref a ∧ Tup H1 a xs ∧ ∀ H' p, Same H1 H' → H1 p = none → H' p = some (.tup xs.reverse) → Q (.ref p) H'
theorem pe_revT {e : Expr} {te : TE} {k : Nat} {p1 p2 p3 pos : Pos} (he : PE X e te) : PE X (.Subscript e (.Slice none none (some (.UnaryOp .USub (.Constant (.int 1) k p1) p2)) p3) pos) (tRevT K te) := by
  refine ⟨fun pins s σ H Q I h => ?_⟩
  refine Subscript_ (thn (he.run pins s σ H _ I h) fun v s1 ⟨x, H1, I1, r1, q1⟩ => ?_)
  obtain ⟨a, xs, ex, hx, q⟩ := q1
  subst ex
  cases r1
  have hst : PO X (some (.UnaryOp .USub (.Constant (.int 1) k p1) p2)) (tPart (tUn (rU fun i => .int (-i)) (tC (.int 1)))) := po_some (pe_un un_neg pe_int)
  refine wpAny_Slice (thn (po_none.run pins s1 σ H1 (fun o H2 => o = none ∧ H2 = H1) I1 ⟨rfl, rfl⟩) fun vl s2 ⟨l, H2, I2, pl, el, e2⟩ => ?_)
  subst el e2
  refine thn (po_none.run pins s2 σ H2 (fun o H3 => o = none ∧ H3 = H2) I2 ⟨rfl, rfl⟩) fun vu s3 ⟨u, H3, I3, pu, eu, e3⟩ => ?_
  subst eu e3
  refine thn (hst.run pins s3 σ H3 (fun o H4 => o = some (-1) ∧ H4 = H3) I3 ⟨1, rfl, -1, rfl, rfl, rfl⟩) fun vs s4 ⟨o, H4, I4, ps, eo, e4⟩ => ?_
  subst eo e4
  have I5 : Inv X pins σ H4 { s4 with heap := s4.heap.push { cls := .type "slice", data := .fields #[vl, vu, vs] } } := I4.kept (t' := s4.toks) fun b ob q => Heap.get?_push_of_some _ q
  obtain ⟨its, r, ht, hz⟩ := I5.tuple hx.sq
  have hlen := r.length
  show wpAny (model X.prog X.w) X.A (subscriptTail e (.Slice none none (some (.UnaryOp .USub (.Constant (.int 1) k p1) p2)) p3) (.ref a) (.ref s4.heap.objs.size)) (EP X pins σ Q) X.xe { s4 with heap := s4.heap.push { cls := .type "slice", data := .fields #[vl, vu, vs] } }
  refine tail_any (ops := [.ref a, .ref s4.heap.objs.size]) ht.typeIs (PyProof.Rows.slot_tuple_getitem.lookup) ?_ (by with_unfolding_all rfl)
  refine getItem_tuple_back ht (Heap.IsSliceOf.new _ vl vu vs) pl pu ps ?_ (by rw [List.size_toArray]; omega)
  refine ⟨.ref _, _, I5.laid (t' := s4.toks) (o := .tup xs.reverse) (fun b ob q => Heap.get?_push_of_some _ q) (Nat.le_refl _) ?_, rfl, q _ _ (Same.fresh (I5.hok.fresh (Nat.le_refl _))) (I5.hok.fresh (Nat.le_refl _)) upd_same⟩
  exact ⟨by rw [List.length_reverse]; exact hz, _, r.reverse, IsTup.new _ _⟩
theorem rd_revT {te : TE} {σ : L2.St} {H : Hp} {Q : VK} (h : te σ H fun x H1 => ∃ a xs, x = .ref a ∧ Tup H1 a xs ∧ NewO H1 (.tup xs.reverse) Q) : tRevT K te σ H Q := by
  have e : (fun x H1 => ∃ a xs, x = V.ref a ∧ Tup H1 a xs ∧ NewO H1 (.tup xs.reverse) Q) = (fun x H1 => ∃ a xs, x = V.ref a ∧ Tup H1 a xs ∧ ∀ H' p, Same H1 H' → H1 p = none → H' p = some (.tup xs.reverse) → Q (.ref p) H') := by
    funext x H1
    refine propext ⟨fun ⟨a, xs, h1, h2, h3⟩ => ⟨a, xs, h1, h2, fun H' p s n e => h3 p H' n s e⟩, fun ⟨a, xs, h1, h2, h3⟩ => ⟨a, xs, h1, h2, fun p H' n s e => h3 H' p s n e⟩⟩
  show te σ H _
  rw [← e]
  exact h
end
end KX

namespace KX
open PySem PySem.Spec PyProof.Rows L2
/-! sorted of a list of data that are alike -/
def rSortD (K : PySem.W.Frag) : List V → Hp → VK → Prop := fun vs H Q => ∃ (β : Type) (enc : β → PyData) (a : Addr) (xs : List V) (bs : List β) (F : V → β → Prop), vs = [V.ref a] ∧ SqL K H a xs ∧ Paired F xs bs ∧ (∀ x b, F x b → Dp K H x (enc b)) ∧
  (∀ b b', PySem.W.alike (enc b) (enc b') = true) ∧ (∀ b, ∃ x r, enc b = .tuple (x :: r)) ∧ (∀ b, (enc b).depth ≤ 60) ∧
  ∀ ys p, Paired F ys (bs.mergeSort (PySem.W.dataLe false enc)) → H p = none → Q (.ref p) (upd H p (.lst ys))
theorem each_zip {β : Type} {F : V → β → Prop} {xs : List V} {bs : List β} {its : List Value} (r : Vals xs its) (p : Paired F xs bs) : PySem.W.EachIs (fun u (z : V × β) => RelV z.1 u) its (xs.zip bs) := by
  induction p generalizing its with
  | nil => cases r; exact .nil
  | cons a _ ih =>
    cases r with
    | cons r1 r2 => exact .cons r1 (ih r2)
theorem each_reads {X : Cx} {pins : List (Addr × Obj)} {σ : L2.St} {H : Hp} {s : Shared} {β : Type} {F : V → β → Prop} {enc : β → PyData} {xs : List V} {bs : List β} {its : List Value} (I : L2.Inv X pins σ H s) (r : Vals xs its) (p : Paired F xs bs) (hd : ∀ x b, F x b → Dp X.K H x (enc b)) :
    PySem.W.EachIs (fun u (z : V × β) => ∃ as, Reads s.heap u (enc z.2) as) its (xs.zip bs) := by
  induction p generalizing its with
  | nil => cases r; exact .nil
  | cons a _ ih =>
    cases r with
    | cons r1 r2 => exact .cons (Dp.reads I _ _ _ (hd _ _ a) r1) (ih r2)
theorem paired_zip {β : Type} {F : V → β → Prop} {xs : List V} {bs : List β} (p : Paired F xs bs) : (∀ z ∈ xs.zip bs, F z.1 z.2) ∧ (xs.zip bs).map (·.2) = bs := by
  induction p with
  | nil => exact ⟨by simp, rfl⟩
  | cons a _ ih =>
    refine ⟨fun z hz => ?_, ?_⟩
    · rcases List.mem_cons.mp hz with e | e
      · rw [e]; exact a
      · exact ih.1 z e
    · have := ih.2
      exact congrArg (_ :: ·) this
theorem paired_of {β : Type} {F : V → β → Prop} : ∀ zs : List (V × β), (∀ z ∈ zs, F z.1 z.2) → Paired F (zs.map (·.1)) (zs.map (·.2))
  | [], _ => .nil
  | z :: zs, h => .cons (h z List.mem_cons_self) (paired_of zs fun y hy => h y (List.mem_cons_of_mem _ hy))
theorem vals_each {β : Type} : ∀ {out : List Value} {zs : List (V × β)}, PySem.W.EachIs (fun u (z : V × β) => RelV z.1 u) out zs → Vals (zs.map (·.1)) out
  | _, _, .nil => .nil
  | _, _, .cons a t => .cons a (vals_each t)
theorem cr_sortedD {X : Cx} (hu : X.A.units + 64 < cLine) : CallR X (.builtin "sorted") (rSortD X.K) := by
  intro pins s σ H vs us Q I r h
  obtain ⟨β, enc, a, xs, bs, F, rfl, hs, hp, hd, hal, htp, hdep, q⟩ := h
  obtain ⟨its, rv, hl, hz⟩ := I.list hs
  rw [Vals.ref1 r]
  obtain ⟨pz, pe⟩ := paired_zip hp
  have em : (xs.zip bs).map (fun z => enc z.2) = bs.map enc := by
    have : (xs.zip bs).map (fun z => enc z.2) = ((xs.zip bs).map (·.2)).map enc := by rw [List.map_map]; rfl
    rw [this, pe]
  refine PySem.W.sorted_data (bs := xs.zip bs) (enc := fun z => enc z.2) (R := fun u (z : V × β) => RelV z.1 u) hl.isList (each_zip rv hp) (each_reads I rv hp hd) (PySem.W.AllAlike.of fun z z' => hal z.2 z'.2) (PySem.W.Sortable.tuples fun z => htp z.2)
    (by rw [List.length_zip]; omega) (fun z _ => by have := hdep z.2; omega) fun out lo eo => ?_
  have hout := vals_each eo
  have ez : ((xs.zip bs).mergeSort (PySem.W.dataLe false fun z => enc z.2)).map (·.2) = bs.mergeSort (PySem.W.dataLe false enc) := by
    rw [List.map_mergeSort (r := PySem.W.dataLe false fun z : V × β => enc z.2) (s := PySem.W.dataLe false enc) (f := fun z : V × β => z.2) (fun a _ b _ => rfl), pe]
  have pf : Paired F (((xs.zip bs).mergeSort (PySem.W.dataLe false fun z => enc z.2)).map (·.1)) (bs.mergeSort (PySem.W.dataLe false enc)) := by
    rw [← ez]
    exact paired_of _ fun z hz => pz z ((List.mergeSort_perm _ _).mem_iff.mp hz)
  obtain ⟨ep, he'⟩ := PyProof.Rows.sortedAll_at s.heap its out.toArray
  refine ⟨.ref _, upd H (s.heap.objs.size + 1) (.lst (((xs.zip bs).mergeSort (PySem.W.dataLe false fun z => enc z.2)).map (·.1))), I.laid (t' := s.toks) (fun _ _ => PyProof.Rows.sortedAll_old) (Nat.le_succ _) ⟨?_, out, ep, hout, he'⟩, rfl, q _ _ pf (I.hok.fresh (Nat.le_succ _))⟩
  rw [List.length_map, (List.mergeSort_perm _ _).length_eq, List.length_zip]
  omega
theorem cr_sortedDK {X : Cx} {K : PySem.W.Frag} (hu : X.A.units + 64 < cLine) (hK : X.K = K := by rfl) : CallR X (.builtin "sorted") (rSortD K) := by subst hK; exact cr_sortedD hu
end KX

namespace KX
open PySem PySem.Spec PyProof.Rows L2
/-! min of a tuple of ints; a list times a number; an item set -/
theorem minOf_le : ∀ (xs : List Int) (x : Int), PySem.W.minOf x xs ∈ x :: xs ∧ ∀ y ∈ x :: xs, PySem.W.minOf x xs ≤ y
  | [], x => ⟨List.mem_cons_self, fun y hy => by
      have : y = x := by simpa using hy
      rw [this]; exact Int.le_refl _⟩
  | z :: xs, x => by
    have e : PySem.W.minOf x (z :: xs) = PySem.W.minOf (if z < x then z else x) xs := by
      show List.foldl _ (if decide (z < x) = true then z else x) xs = List.foldl _ (if z < x then z else x) xs
      by_cases c : z < x
      · rw [if_pos (decide_eq_true c), if_pos c]
      · rw [if_neg (by simp [c]), if_neg c]
    rw [e]
    obtain ⟨h1, h2⟩ := minOf_le xs (if z < x then z else x)
    have h3 := h2 _ List.mem_cons_self
    refine ⟨?_, fun y hy => ?_⟩
    · rcases List.mem_cons.mp h1 with y | y
      · rw [y]
        by_cases c : z < x
        · rw [if_pos c]; simp
        · rw [if_neg c]; simp
      · exact List.mem_cons_of_mem _ (List.mem_cons_of_mem _ y)
    · rcases List.mem_cons.mp hy with w | w
      · rw [w]
        by_cases c : z < x
        · rw [if_pos c] at h3; rw [if_pos c]; omega
        · rw [if_neg c] at h3; rw [if_neg c]; exact h3
      · rcases List.mem_cons.mp w with w | w
        · rw [w]
          by_cases c : z < x
          · rw [if_pos c] at h3; rw [if_pos c]; exact h3
          · rw [if_neg c] at h3; rw [if_neg c]; omega
        · exact h2 y (List.mem_cons_of_mem _ w)
def rMinT (K : PySem.W.Frag) : List V → Hp → VK → Prop := fun vs H Q => ∃ (a : Addr) (ns : List Int), vs = [V.ref a] ∧ SqT K H a (ns.map V.int) ∧ 0 < ns.length ∧ ∀ m, m ∈ ns → (∀ y, y ∈ ns → m ≤ y) → Q (.int m) H
theorem cr_minT {X : Cx} (hc : X.calm = true) (hu : X.A.units + 64 < cLine) : CallR X (.builtin "min") (rMinT X.K) := by
  intro pins s σ H vs us Q I r h
  obtain ⟨a, ns, rfl, hs, hne, q⟩ := h
  obtain ⟨its, rv, ht, _⟩ := I.tuple hs
  rw [Vals.ref1 r]
  have hi := rv.ints
  cases ns with
  | nil => exact absurd hne (by simp)
  | cons n ns =>
    refine PySem.W.min_tuple_datum (α := Int) (x := n) (xs := ns) (I.ok.hd hc) ht (by simpa using PySem.W.HoldAll.of_ints hi) ?_ fun i v h' tk hv hh hk => ?_
    · have : PySem.W.Datum.depth Int ≤ 60 := by decide
      omega
    · obtain ⟨t, rfl⟩ := PySem.W.int_of_holds hh
      obtain ⟨h1, h2⟩ := minOf_le ns n
      exact ⟨.int _, H, I.kept hk, ⟨_, rfl⟩, q _ h1 h2⟩
theorem cr_minTK {X : Cx} {K : PySem.W.Frag} (hc : X.calm = true) (hu : X.A.units + 64 < cLine) (hK : X.K = K := by rfl) : CallR X (.builtin "min") (rMinT K) := by subst hK; exact cr_minT hc hu
/-- the least of a list of numbers -/
def leastI (l : List Int) : Int := match l with
  | [] => 0
  | x :: xs => PySem.W.minOf x xs
theorem leastI_of {l : List Int} {m : Int} (hm : m ∈ l) (h : ∀ y ∈ l, m ≤ y) : m = leastI l := by
  cases l with
  | nil => cases hm
  | cons x xs =>
    obtain ⟨h1, h2⟩ := minOf_le xs x
    have a := h _ h1
    have b := h2 _ hm
    show m = PySem.W.minOf x xs
    omega
theorem rd_minT {K : PySem.W.Frag} {H : Hp} {Q : VK} {p : Addr} {ns : List Int} (ha : Tup H p (ns.map V.int)) (hn : 0 < ns.length) (h : Q (.int (leastI ns)) H) : rMinT K [.ref p] H Q :=
  ⟨p, ns, rfl, ha.sq, hn, fun m h1 h2 => by rw [leastI_of h1 h2]; exact h⟩
theorem rd_min {K : PySem.W.Frag} {H : Hp} {Q : VK} {p : Addr} {ns : List Int} (ha : H p = some (.lst (ns.map V.int))) (hn : 0 < ns.length) (h : Q (.int (leastI ns)) H) : rMin K [.ref p] H Q :=
  ⟨p, ns, rfl, SqL.of ha, hn, fun m h1 h2 => by rw [leastI_of h1 h2]; exact h⟩
theorem rd_sum {K : PySem.W.Frag} {H : Hp} {Q : VK} {p : Addr} {ns : List Int} (ha : H p = some (.lst (ns.map V.int))) (h : Q (.int ns.sum) H) : rSum K [.ref p] H Q := ⟨p, ns, rfl, SqL.of ha, h⟩
theorem rd_all {K : PySem.W.Frag} {H : Hp} {Q : VK} {p : Addr} {bs : List Bool} (ha : H p = some (.lst (bs.map V.bl))) (h : Q (.bl (bs.all id)) H) : rAll K [.ref p] H Q := ⟨p, bs, rfl, SqL.of ha, h⟩
theorem flat_one (k : Nat) (v : V) : (List.replicate k [v]).flatten = List.replicate k v := by
  induction k with
  | zero => rfl
  | succ k ih => rw [List.replicate_succ, List.flatten_cons, ih]; rfl
/-- [v] * k -/
theorem rd_rep1 {H : Hp} {Q : VK} {l : Addr} {k : Nat} {v : V} (hl : H l = some (.lst [v])) (hk : k < 1000) (h : NewO H (.lst (List.replicate k v)) Q) : rRep (.ref l) (.int (k : Nat)) H Q :=
  ⟨l, k, [v], rfl, rfl, hl, by omega, by omega, by
    have : ((k : Nat) : Int).toNat = k := by omega
    rw [this]
    exact Nat.le_trans (by simp; omega : [v].length * k ≤ 1000) (by decide), fun p hp => by
    have : ((k : Nat) : Int).toNat = k := by omega
    rw [this, flat_one]
    exact new_of h p hp⟩
theorem rd_setL {H : Hp} {p : Addr} {xs : List V} {k : Int} {v : V} {Q : Hp → Prop} (hp : H p = some (.lst xs)) (h0 : 0 ≤ k) (h1 : k < xs.length) (h : Q (upd H p (.lst (xs.set k.toNat v)))) : rSetL (.ref p) (.int k) v H Q :=
  ⟨p, xs, k, k.toNat, rfl, rfl, hp, by
    unfold ixN
    rw [if_pos h0]
    first
      | (rw [if_pos (by omega)])
      | (split <;> first | rfl | omega), h⟩
/-- t + u of tuples -/
theorem rd_catW {H : Hp} {Q : VK} {a b : Addr} {xs ys : List V} (ha : Tup H a xs) (hb : Tup H b ys) (hl : xs.length + ys.length ≤ 1000) (h : ∀ H' p, Same H H' → Tup H' p (xs ++ ys) → Q (.ref p) H') : rCatW (.ref a) (.ref b) H Q :=
  ⟨a, b, xs, ys, rfl, rfl, ha, hb, Nat.le_trans hl (by decide), h⟩
theorem rd_slW {H : Hp} {Q : VK} {a : Addr} {xs : List V} {lo hi : Option Int} (ha : Tup H a xs) (h : ∀ H' p, Same H H' → Tup H' p (cutV xs lo hi) → Q (.ref p) H') : rSlW (.ref a) lo hi H Q := ⟨a, xs, rfl, ha, h⟩
end KX

namespace KX
open PySem PySem.Spec PyProof.Rows L2
/-! ### xs[i] += e of a list: the read -/
/-- the entry of a list at a place that is there (for xs[i] op= e: the read of ps_augS) -/
def rGetL (K : PySem.W.Frag) : V → V → Hp → VK → Prop := fun o i H Q => ∃ p xs k v, o = .ref p ∧ i = .int k ∧ SqL K H p xs ∧ 0 ≤ k ∧ xs[k.toNat]? = some v ∧ Q v H
theorem get_list {X : Cx} : PGet X (rGetL X.K) := by
  intro pins s σ H o i ov iv Q I ro ri h
  obtain ⟨p, xs, k, v, rfl, rfl, hx, h0, hv, hQ⟩ := h
  cases ro
  obtain ⟨t, rfl⟩ := ri
  obtain ⟨its, r, ht, hz⟩ := I.list hx
  have hl := r.length
  obtain ⟨hk, hv2⟩ := List.getElem?_eq_some_iff.mp hv
  obtain ⟨u, hu, ru⟩ := r.get hv
  have hz2 : (PySem.sizeLine : Nat) < 2 ^ 63 := by decide +kernel
  refine wpAny_getItem_list ht.isList h0 (by omega) (x := u) (by rw [List.getElem?_toArray]; exact hu) ⟨v, H, I, ru, hQ⟩
/-! ### (v,) * k -/
/-- t * 1, t * 0 of a tuple with entries -/
def rRep01 (K : PySem.W.Frag) : R2 := fun x y H Q => ∃ l k xs, x = .ref l ∧ y = .int k ∧ SqT K H l xs ∧ xs ≠ [] ∧ ((k = 1 ∧ Q (.ref l) H) ∨ (k = 0 ∧ NewO H (.tup []) Q))
theorem op_rep01 {X : Cx} : OpR X (binaryOp .Mult) (rRep01 X.K) := by
  intro pins s σ H x y v u Q I rx ry h
  obtain ⟨l, k, xs, rfl, rfl, hx, ne, hk⟩ := h
  cases rx
  obtain ⟨t, rfl⟩ := ry
  obtain ⟨its, r, ht, hz⟩ := I.tuple hx
  have hl := r.length
  obtain ⟨o, ho, hc, n, hd⟩ := ht
  obtain ⟨oc, od, oda, osl⟩ := o
  cases hc
  cases hd
  have ht : IsTup s.heap l its.toArray := ⟨_, ho, rfl, n, rfl⟩
  refine wpAny_binaryOp_repeat_ref (T := "tuple") (U := "int") (id := "tuple.__mul__") (idr := "int.__rmul__") (ix := .builtin "int.__index__") (by decide) ht.typeIs (fun s' => rfl) L2.noFill_tuple_mul (by with_unfolding_all rfl) F.slot_int_rmul L2.repeat_tuple (by with_unfolding_all rfl) ?_
  refine call_meets F.slot_int_rmul rfl F.entry_int_rmul (by with_unfolding_all rfl) (L2.int_rmul_tuple k t l its.toArray n od osl) ⟨ho, rfl, ht.typeIs, ?_⟩
  refine wpAny_call_entry F.slot_tuple_mul ht.typeIs F.entry_tuple_mul ?_ (F.args_tuple_mul_2 _ _)
  have hne : its.toArray.isEmpty = false := by
    cases its with
    | nil => exact absurd (List.length_eq_zero_iff.mp hl) ne
    | cons a b => rfl
  rcases hk with ⟨rfl, hQ⟩ | ⟨rfl, hQ⟩
  · show wpAny _ _ (asIndex (.int 1 t) >>= _) _ _ s
    refine wpAny_bind (m := asIndex (.int 1 t)) (wpAny_bind (wpAny_pure (wpAny_pure ?_)))
    show wpAny _ _ (Builtin.Tuple.tupleItemsOf (.ref l) >>= _) _ _ s
    refine wpAny_bind (tupleItemsOf_ ht ?_)
    show wpAny _ _ (if (its.toArray.isEmpty || (1 : Int) == 1) = true then _ else _) _ _ s
    rw [if_pos (by rw [hne]; decide)]
    refine wpAny_bind (m := Builtin.Tuple.tupleIsExact (.ref l)) (wpAny_bind (wpAny_typeOf ht.typeIs (wpAny_pure ?_)))
    rw [if_pos (by decide)]
    first
      | exact wpAny_bind (wpAny_rule (wpAny_pure ⟨_, rfl, .ref l, H, I, rfl, hQ⟩))
      | exact wpAny_bind (wpAny_pure (wpAny_pure ⟨_, rfl, .ref l, H, I, rfl, hQ⟩))
      | exact wpAny_pure ⟨_, rfl, .ref l, H, I, rfl, hQ⟩
  · show wpAny _ _ (asIndex (.int 0 t) >>= _) _ _ s
    refine wpAny_bind (m := asIndex (.int 0 t)) (wpAny_bind (wpAny_pure (wpAny_pure ?_)))
    show wpAny _ _ (Builtin.Tuple.tupleItemsOf (.ref l) >>= _) _ _ s
    refine wpAny_bind (tupleItemsOf_ ht ?_)
    show wpAny _ _ (if (its.toArray.isEmpty || (0 : Int) == 1) = true then _ else _) _ _ s
    rw [if_neg (by rw [hne]; decide)]
    show wpAny _ _ (if (decide ((0 : Int) ≤ 0) || its.toArray.isEmpty) = true then _ else _) _ _ s
    rw [if_pos (by rw [hne]; decide)]
    have I5 : Inv X pins σ (upd H s.heap.objs.size (.tup [])) { s with heap := s.heap.push { cls := .type "tuple", data := .seq #[] } } :=
      I.laid (t' := s.toks) (o := .tup []) (fun b ob q => Heap.get?_push_of_some _ q) (Nat.le_refl _) ⟨by decide +kernel, _, .nil, IsTup.new _ _⟩
    refine wpAny_bind (m := Builtin.Tuple.tupleExact _) (wpAny_newObj_type ?_ (by show (0 : Nat) ≤ _; exact Nat.zero_le _))
    refine wpAny_pure ⟨_, rfl, .ref _, _, I5, rfl, hQ _ _ (I.hok.fresh (Nat.le_refl _)) (Same.fresh (I.hok.fresh (Nat.le_refl _))) upd_same⟩
/-- (v,) * k of any small number: a tuple of k times v -/
def rRepW : R2 := fun x y H Q => ∃ (l : Addr) (k : Nat) (v : V), x = .ref l ∧ y = .int k ∧ Tup H l [v] ∧ k ≤ 1000 ∧ ∀ H' a, Same H H' → Tup H' a (List.replicate k v) → Q (.ref a) H'
theorem op_repW {X : Cx} : OpR X (binaryOp .Mult) rRepW := by
  intro pins s σ H x y v u Q I rx ry h
  obtain ⟨l, k, w, e1, e2, hx, hk, hQ⟩ := h
  match k, hk, e2, hQ with
  | 0, _, e2, hQ => exact op_rep01 pins s σ H x y v u Q I rx ry ⟨l, 0, [w], e1, e2, hx.sq, by simp, .inr ⟨rfl, fun p H' n S e => hQ H' p S (Tup.of e)⟩⟩
  | 1, _, e2, hQ => exact op_rep01 pins s σ H x y v u Q I rx ry ⟨l, 1, [w], e1, e2, hx.sq, by simp, .inl ⟨rfl, hQ H l (Same.refl H) hx⟩⟩
  | k + 2, hk, e2, hQ =>
    refine op_repT pins s σ H x y v u Q I rx ry ⟨l, _, [w], e1, e2, hx.sq, by simp, by omega, by omega, by simp, fun p hp => hQ _ p (Same.fresh hp) (Tup.of ?_)⟩
    have e : (((k + 2 : Nat) : Int)).toNat = k + 2 := by omega
    rw [e, flat_one]
    exact upd_same
end KX

namespace KX
open PySem PySem.Spec PyProof.Rows L2
section
variable {prog : Program} {w : World} {A : Around} {E : Value → Shared → Prop} {s : Shared}
/-- sorted(t, reverse=b) of a tuple of whole numbers -/
theorem sorted_tupR {l : Addr} {vs : List Value} {ns : List Int} {n : Nat} {dd : Option Addr} {sl : Array (Option Value)} {b : Bool} {Q : Value → Shared → Prop}
    (hl : s.heap.get? l = some ⟨.type "tuple", dd, .seq vs.toArray n, sl⟩) (hI : IntsAre vs ns) (hz : vs.length ≤ sizeLine)
    (h : ∀ (out : Array Value) (ns' : List Int), IntsAre out.toList ns' → ns'.Perm ns → Ordered b ns' →
      Q (.ref (s.heap.objs.size + 1)) { s with heap := sortedAll s.heap vs out }) :
    wpAny (model prog w) A (call (.builtin "sorted") [.ref l] [(Str.ofString "reverse", .bool b)]) Q E s := by
  refine call_function_entry_kw kind_sorted plain_sorted entry_sorted (args_sorted_rev _ _) ?_
  unfold Builtin.«sorted»
  refine wpAny_bind (m := checkCount "sorted" 1 1 _) (wpAny_pure ?_)
  apply wpAny_bind
  refine collect_tup hl hz ?_
  apply wpAny_bind
  refine wpAny_newList ?_ (hsz := hz)
  have hs2 : ((s.heap.push (seqObj "list" #[] 0)).update s.heap.objs.size
      (Obj.mapSeq (· ++ vs.toArray))).objs.size = s.heap.objs.size + 1 := by
    rw [Heap.size_update]
    exact Heap.size_push ..
  have ho : (((s.heap.push (seqObj "list" #[] 0)).update s.heap.objs.size
      (Obj.mapSeq (· ++ vs.toArray))).push (seqObj "list" vs.toArray 0)).get? (s.heap.objs.size + 1) =
      some (seqObj "list" vs.toArray 0) := by
    rw [← hs2]
    exact Heap.get?_push_size _ rfl
  show wpAny _ _ _ _ _
    { s with heap := (((s.heap.push (seqObj "list" #[] 0)).update s.heap.objs.size
      (Obj.mapSeq (· ++ vs.toArray))).push (seqObj "list" vs.toArray 0)) }
  rw [hs2]
  apply wpAny_bind
  apply wpAny_holding
  refine wpAny_call_entry_kw slot_list_sort ⟨_, ho, rfl⟩ entry_list_sort ?_ (args_list_sort_rev _ _)
  refine SrtR.list_sort_ordR SrtO.swo_int ho hz (fun h2 => SrtO.ints_sortable hI h2) fun out h1 h2 => ⟨_, rfl, ?_⟩
  obtain ⟨ns', a1, a2, a3⟩ := SrtR.ints_outR hI h1 h2
  exact wpAny_pure ⟨_, rfl, h _ ns' a1 a2 a3⟩
end
def rSortRevT (K : PySem.W.Frag) (b : Bool) : List V → List V → Hp → VK → Prop := fun vs zs H Q => ∃ (a : Addr) (ns : List Int), vs = [V.ref a] ∧ zs = [V.bl b] ∧ Tup H a (ns.map V.int) ∧
  ∀ (ns' : List Int) (p : Addr) (H' : Hp), ns'.Perm ns → OrdB b ns' → H p = none → Same H H' → H' p = some (.lst (ns'.map V.int)) → Q (.ref p) H'
theorem cr_sortedRevT {X : Cx} {b : Bool} : CallRK X (.builtin "sorted") [Str.ofString "reverse"] (rSortRevT X.K b) := by
  intro pins s σ H xs zs us ws Q I r rz h
  obtain ⟨a, ns, rfl, rfl, hs, q⟩ := h
  obtain ⟨its, rv, ⟨⟨cls, dd, data, sl⟩, ho, hc, n, hd⟩, hz⟩ := I.tuple hs.sq
  simp only at hc hd
  subst hc hd
  rw [Vals.ref1 r]
  obtain ⟨wv, rfl, rb⟩ := rz.one
  cases rb
  have hi := rv.ints
  have hl := rv.length
  refine sorted_tupR ho hi (by omega) fun out ns' h1 h2 h3 => ?_
  obtain ⟨ep, he⟩ := sortedAll_at s.heap its out
  have hlen : (ns'.map V.int).length ≤ sizeLine := by
    rw [List.length_map, h2.length_eq]
    rw [List.length_map] at hz
    exact hz
  have nf := I.hok.fresh (Nat.le_succ s.heap.objs.size)
  refine ⟨.ref _, upd H (s.heap.objs.size + 1) (.lst (ns'.map V.int)), ?_, rfl, q ns' _ _ h2 h3 nf (Same.fresh nf) upd_same⟩
  exact I.laid (t' := s.toks) (fun _ _ => sortedAll_old) (Nat.le_succ _) ⟨hlen, out.toList, ep, vals_of_ints h1, he⟩
/-! max(list, default=d) of whole numbers -/
theorem foldmax : ∀ (ns : List Int) (n : Int), ns.foldl max n ∈ n :: ns ∧ ∀ y ∈ n :: ns, y ≤ ns.foldl max n
  | [], n => ⟨List.mem_singleton.mpr rfl, fun y hy => by rw [List.mem_singleton.mp hy]; exact Int.le_refl _⟩
  | m :: ns, n => by
    obtain ⟨h1, h2⟩ := foldmax ns (max n m)
    show ns.foldl max (max n m) ∈ _ ∧ ∀ y ∈ n :: m :: ns, y ≤ ns.foldl max (max n m)
    have h3 := h2 (max n m) (List.mem_cons_self ..)
    constructor
    · rcases List.mem_cons.mp h1 with e | e
      · rw [e]
        by_cases c : n ≤ m
        · rw [show max n m = m by omega]; simp
        · rw [show max n m = n by omega]; simp
      · exact List.mem_cons_of_mem _ (List.mem_cons_of_mem _ e)
    · intro y hy
      rcases List.mem_cons.mp hy with e | e
      · omega
      · rcases List.mem_cons.mp e with e | e
        · omega
        · exact h2 y (List.mem_cons_of_mem _ e)
/-- the greatest of a list, or d -/
def mostI (d : Int) (l : List Int) : Int := match l with
  | [] => d
  | x :: xs => xs.foldl max x
def rMaxDef (K : PySem.W.Frag) : List V → List V → Hp → VK → Prop := fun vs zs H Q => ∃ (a : Addr) (ns : List Int) (d : Int), vs = [V.ref a] ∧ zs = [V.int d] ∧ SqL K H a (ns.map V.int) ∧ Q (.int (mostI d ns)) H
theorem cr_maxDef {X : Cx} (hc : X.calm = true) (hu : X.A.units + 64 < cLine) : CallRK X (.builtin "max") [Str.ofString "default"] (rMaxDef X.K) := by
  intro pins s σ H xs zs us ws Q I r rz h
  obtain ⟨a, ns, d, rfl, rfl, hs, q⟩ := h
  obtain ⟨its, rv, ht, hz⟩ := I.list hs
  rw [Vals.ref1 r]
  obtain ⟨wv, rfl, rb⟩ := rz.one
  obtain ⟨t, rfl⟩ := rb
  have hi := rv.ints
  have hd : PyData.depthAll (ns.map PyData.int) ≤ 1 := by
    have e : ∀ l : List Int, PyData.depthAll (l.map PyData.int) ≤ 1 := by
      intro l
      induction l with
      | nil => decide
      | cons n l ih =>
        show max (PyData.depth (.int n)) (PyData.depthAll (l.map PyData.int)) ≤ 1
        have h1 : PyData.depth (.int n) = 0 := rfl
        rw [h1]; omega
    exact e ns
  refine PySem.W.max_list_default (xs := ns.map PyData.int) (as := []) (I.ok.hd hc) ht.isList (by simpa using hi.reads s.heap) ⟨?_, ?_⟩ (by omega) ?_ ?_
  · intro x hx y hy
    obtain ⟨i, _, rfl⟩ := List.mem_map.mp hx
    obtain ⟨j, _, rfl⟩ := List.mem_map.mp hy
    rfl
  · intro x hx
    obtain ⟨i, _, rfl⟩ := List.mem_map.mp hx
    intro e; cases e
  · intro e h' tk hk
    have e2 : ns = [] := List.map_eq_nil_iff.mp e
    subst e2
    exact ⟨.int _, H, I.kept hk, ⟨_, rfl⟩, q⟩
  · intro y ys i v h' tk bs e hv hr hk
    match ns, e with
    | n :: ns, e =>
      obtain ⟨rfl, rfl⟩ := List.cons.inj e
      rw [PySem.W.maxD_ints] at hr
      cases hr
      exact ⟨.int _, H, I.kept hk, ⟨_, rfl⟩, q⟩
end KX

namespace KX
open PySem PySem.Spec PyProof.Rows L2
section
variable {prog : Program} {w : World} {A : Around} {E : Value → Shared → Prop} {s : Shared}
/-- sorted(d.items(), reverse=b), from the list that is made on -/
theorem sorted_itemsR {r d : Addr} {es : Array DictEntry} {ep : Nat} {b : Bool} {Q : Value → Shared → Prop} (hh : A.handled = none) (hv : s.heap.IsItemsView r d) (hr : DT.Raw s.heap d es ep) (hz : es.size ≤ sizeLine)
    (k : Heap → Value → Int × Int)
    (hk : ∀ (h' : Heap) (as : List Addr), DT.Made es s.heap.objs.size h' as → ∀ v ∈ as.map Value.ref, ∀ o, Srt.IsPair (h'.push o) v (k h' v).1 (k h' v).2)
    (h : ∀ (h' : Heap) (tk : Nat) (as : List Addr) (out : List Value), (∀ (b : Addr) (o : Obj), s.heap.get? b = some o → h'.get? b = some o) → s.heap.objs.size < h'.objs.size → as.length = es.size → DT.Made es s.heap.objs.size h' as →
      SrtO.Srtd (fun v u => SrtO.lexB (k h' v) (k h' u)) out → SrtO.Stb (fun v u => SrtO.lexB (k h' v) (k h' u)) out (if b = true then (as.map Value.ref).reverse else as.map Value.ref) →
      Q (.ref h'.objs.size) { heap := sortedHeap (h'.push (seqObj "list" (as.map Value.ref).toArray 0)) h'.objs.size (as.map Value.ref) (if b = true then out.toArray.reverse else out.toArray), gens := s.gens, drawn := s.drawn, toks := tk, os := s.os }) :
    wpAny (model prog w) A (call (.builtin "sorted") [.ref r] [(Str.ofString "reverse", .bool b)]) Q E s := by
  refine call_function_entry_kw kind_sorted plain_sorted entry_sorted (args_sorted_rev _ _) ?_
  unfold Builtin.«sorted»
  refine wpAny_bind (m := checkCount "sorted" 1 1 _) (wpAny_pure ?_)
  apply wpAny_bind
  refine DT.collectI (A := A.in1) hh hv hr hz fun h' tk as k1 k2 k3 M => ?_
  apply wpAny_bind
  have hz' : (as.map Value.ref).length ≤ sizeLine := by rw [List.length_map, k3]; exact hz
  refine wpAny_newList ?_ (hsz := hz')
  have ho : (h'.push (seqObj "list" (as.map Value.ref).toArray 0)).get? h'.objs.size = some (seqObj "list" (as.map Value.ref).toArray 0) := Heap.get?_push_size _ rfl
  apply wpAny_bind
  apply wpAny_holding
  refine wpAny_call_entry_kw slot_list_sort ⟨_, ho, rfl⟩ entry_list_sort ?_ (args_list_sort_rev _ _)
  refine SrtR.list_sort_ordR (SrtO.swo_lex (k h')) ho hz' (fun h2 => SrtO.pairs_sortableO (by omega) (fun v hv => hk h' as M v hv _) (fun o e => ?_)) fun out h1 h2 => ⟨_, rfl, ?_⟩
  · rw [show _ = some _ from ho] at e
    cases e
    show Value.type "list" ≠ Value.type "tuple"
    decide
  · exact wpAny_pure ⟨_, rfl, h h' tk as out k1 k2 k3 M h1 h2⟩
end
/-! d.items() of a dict with whole numbers; sorted of it -/
theorem mt_itemsK {X : Cx} : MtR X "dict.items" (fun x xs H Q => ∃ a kvs, x = V.ref a ∧ xs = [] ∧ H a = some (HO.dK kvs) ∧ ∀ (p : Addr), H p = none → Q (V.ref p) (upd H p (DX.itemsO p a))) := by
  intro pins s σ H x xs v us Q I rx rxs h
  obtain ⟨a, kvs, rfl, rfl, ha, q⟩ := h
  cases rx
  cases rxs
  obtain ⟨x1, low, vs, kv, o, es, ep, hg, hx, hd, hks, hp, nd⟩ := I.hok a _ ha
  refine DT.callItems low ⟨o, hg, hx, hd⟩ ?_
  refine ⟨.ref _, _, I.laid (t' := s.toks) (o := DX.itemsO s.heap.objs.size a) (fun b ob q => Heap.get?_push_of_some _ q) (Nat.le_refl _) (DX.itemsO_ok (Heap.get?_push_size _ rfl)), rfl, q _ (I.hok.fresh (Nat.le_refl _))⟩
/-- the pairs of numbers that stand at these values -/
def pairAt (h : Heap) (v : Value) : Int × Int := match v with
  | .ref a => match h.get? a with
    | some o => match o.data with
      | .seq its _ => match its[0]?, its[1]? with
        | some (Value.int i _), some (Value.int j _) => (i, j)
        | _, _ => (0, 0)
      | _ => (0, 0)
    | none => (0, 0)
  | _ => (0, 0)
theorem ents_of {P : Program} {w : World} : ∀ (ps : List (Int × Int)) (vs : List (Key × Value)) (es : List DictEntry), KV (ps.map fun q => ((Sum.inl q.1 : Key), V.int q.2)) vs → PySem.Pairs (mixKind P w) es vs →
    es.length = ps.length ∧ ∀ (j : Nat) (e : DictEntry), es[j]? = some e → ∃ q t u, ps[j]? = some q ∧ e.key = Value.int q.1 t ∧ e.val = Value.int q.2 u
  | [], _, _, .nil, .nil => ⟨rfl, fun j e h => by simp at h⟩
  | q :: ps, (k, v) :: vs, e :: es, .cons hq tl, .cons h1 h2 h3 => by
    obtain ⟨l, r⟩ := ents_of ps vs es tl h3
    refine ⟨by simp [l], fun j e' h => ?_⟩
    cases j with
    | zero =>
      have e2 : e = e' := by simpa using h
      subst e2
      obtain ⟨hk, t, hv⟩ := hq
      change Sum.inl q.1 = k at hk
      subst hk
      change Value.isInt q.1 e.key = true at h1
      refine ⟨q, ?_⟩
      cases hek : e.key with
      | int i tk =>
        rw [hek] at h1
        have : i = q.1 := by simpa [Value.isInt] using h1
        exact ⟨tk, t, rfl, by rw [this], by rw [h2]; exact hv⟩
      | _ => rw [hek] at h1; cases h1
    | succ j => exact r j e' (by simpa using h)
def rSortItR (b : Bool) : List V → List V → Hp → VK → Prop := fun vs zs H Q => ∃ (p a : Addr) (ps : List (Int × Int)), vs = [V.ref p] ∧ zs = [V.bl b] ∧ H p = some (DX.itemsO p a) ∧ H a = some (.dK (ps.map fun q => (Sum.inl q.1, V.int q.2))) ∧
  ∀ (H' : Hp) (l : Addr) (ts : List Addr) (qs : List (Int × Int)), Same H H' → H l = none → H' l = some (.lst (ts.map V.ref)) → qs.Perm ps → Paired (fun t q => H t = none ∧ H' t = some (.tup [.int q.1, .int q.2])) ts qs →
    (if b = true then qs.Pairwise (fun x y => SrtO.lexB x y = false) else qs.Pairwise (fun x y => SrtO.lexB y x = false)) → Q (.ref l) H'
theorem cr_sortedItR {X : Cx} (hc : X.calm = true) {b : Bool} : CallRK X (.builtin "sorted") [Str.ofString "reverse"] (rSortItR b) := by
  intro pins s σ H xs zs us ws Q I r rz h
  obtain ⟨p, a, ps, rfl, rfl, hp, ha, q⟩ := h
  rw [Vals.ref1 r]
  obtain ⟨wv, rfl, rb⟩ := rz.one
  cases rb
  obtain ⟨x1, low, vs, kv, o, es, ep, hg, hx, hd, hks, hpr, nd⟩ := I.hok a _ ha
  have hv : s.heap.IsItemsView p a := by
    have z := I.hok p _ hp
    first | exact z | exact z.2 | exact z.1
  obtain ⟨hl, hent0⟩ := ents_of ps vs es.toList kv hpr
  have hen : es.size ≤ sizeLine := by
    rw [List.length_map] at x1
    have : es.toList.length = es.size := Array.length_toList
    omega
  have hent : ∀ j : Nat, ∀ e, es[j]? = some e → ∃ q t u, ps[j]? = some q ∧ e.key = .int q.1 t ∧ e.val = .int q.2 u := fun j e he => hent0 j e (by rw [Array.getElem?_toList]; exact he)
  refine sorted_itemsR (A := X.A) (I.ok.hd hc) hv ⟨o, hg, hx, hd⟩ hen pairAt (fun h' as M v hv o => ?_) fun h' tk as out k1 k2 k3 M s1 s2 => ?_
  · obtain ⟨t, ht, rfl⟩ := List.mem_map.mp hv
    obtain ⟨j, hj, e⟩ := List.getElem_of_mem ht
    obtain ⟨e, he, hh⟩ := M.pairs j t (by rw [List.getElem?_eq_getElem hj, e])
    obtain ⟨q, t1, t2, hq, e1, e2⟩ := hent j e he
    rw [e1, e2] at hh
    refine ⟨t, _, t1, t2, 0, rfl, Heap.get?_push_of_some _ hh, rfl, ?_⟩
    have : pairAt h' (.ref t) = q := by
      simp only [pairAt, hh]
      rfl
    rw [this]
  · have hpa : ∀ (j : Nat) (t : Addr), as[j]? = some t → ∃ q t1 t2, ps[j]? = some q ∧ pairAt h' (.ref t) = q ∧ h'.get? t = some { cls := .type "tuple", data := .seq #[.int q.1 t1, .int q.2 t2] } := by
      intro j t e
      obtain ⟨e, he, hh⟩ := M.pairs j t e
      obtain ⟨q, t1, t2, hq, e1, e2⟩ := hent j e he
      rw [e1, e2] at hh
      exact ⟨q, t1, t2, hq, by simp only [pairAt, hh]; rfl, hh⟩
    have hps : as.map (fun t => pairAt h' (.ref t)) = ps := by
      have l2 : as.length = ps.length := by rw [k3, ← hl]; simp
      refine List.ext_getElem (by simpa using l2) fun j h1 h2 => ?_
      have h1' : j < as.length := by simpa using h1
      obtain ⟨q, t1, t2, hq, e, _⟩ := hpa j as[j] (List.getElem?_eq_getElem h1')
      rw [List.getElem?_eq_getElem h2] at hq
      rw [List.getElem_map, e]
      exact (Option.some.inj hq).symm
    let fin : List Value := if b = true then out.reverse else out
    have hfin : (if b = true then out.toArray.reverse else out.toArray) = fin.toArray := by
      show _ = (if b = true then out.reverse else out).toArray
      cases b <;> simp
    have hperm : fin.Perm (as.map Value.ref) := by
      show (if b = true then out.reverse else out).Perm _
      have hp := s2.perm
      cases b
      · simpa using hp
      · simp only [if_true] at hp ⊢
        exact (List.reverse_perm out).trans (hp.trans (List.reverse_perm _))
    let ts : List Addr := fin.map fun v => match v with | .ref a => a | _ => 0
    have hts : ts.map Value.ref = fin := by
      show (fin.map _).map _ = fin
      rw [List.map_map]
      refine (List.map_congr_left fun v hv => ?_).trans (List.map_id fin)
      obtain ⟨t, _, rfl⟩ := List.mem_map.mp (hperm.mem_iff.mp hv)
      rfl
    have hpt : ts.Perm as := by
      have := hperm.map (fun v => match v with | Value.ref a => a | _ => (0 : Addr))
      rw [List.map_map] at this
      have e : (as.map ((fun v => match v with | Value.ref a => a | _ => (0 : Addr)) ∘ Value.ref)) = as := (List.map_congr_left fun v hv => rfl).trans (List.map_id as)
      rw [e] at this
      exact this
    let qs := ts.map fun t => pairAt h' (.ref t)
    have hqp : qs.Perm ps := by rw [← hps]; exact hpt.map _
    have hord : if b = true then qs.Pairwise (fun x y => SrtO.lexB x y = false) else qs.Pairwise (fun x y => SrtO.lexB y x = false) := by
      have e : qs = fin.map (pairAt h') := by
        have e0 : fin.map (pairAt h') = (ts.map Value.ref).map (pairAt h') := by rw [hts]
        rw [e0, List.map_map]; rfl
      rw [e]
      show if b = true then ((if b = true then out.reverse else out).map (pairAt h')).Pairwise _ else ((if b = true then out.reverse else out).map (pairAt h')).Pairwise _
      cases b
      · simp only [Bool.false_eq_true, if_false]
        exact List.pairwise_map.mpr s1
      · simp only [if_true]
        exact List.pairwise_map.mpr (List.pairwise_reverse.mpr s1)
    rw [hfin]
    have hnew : (h'.push (seqObj "list" (as.map Value.ref).toArray 0)).get? h'.objs.size = some (seqObj "list" (as.map Value.ref).toArray 0) := Heap.get?_push_size _ rfl
    obtain ⟨ep2, hat⟩ := sortedHeap_at (out := fin.toArray) hnew
    have hold : ∀ (b : Addr) (o : Obj), h'.get? b = some o → (sortedHeap (h'.push (seqObj "list" (as.map Value.ref).toArray 0)) h'.objs.size (as.map Value.ref) fin.toArray).get? b = some o := fun b o e => by
      have lt : b < h'.objs.size := by
        rcases Nat.lt_or_ge b h'.objs.size with c | c
        · exact c
        · have e3 : h'.objs[b]? = none := Array.getElem?_eq_none c
          unfold Heap.get? at e
          rw [e3] at e
          cases e
      rw [sortedHeap_old (Nat.ne_of_lt lt) (by show b < (h'.objs.push _).size; rw [Array.size_push]; exact Nat.lt_succ_of_lt lt)]
      exact Heap.get?_push_of_some _ e
    have lts : ts.length = as.length := hpt.length_eq
    have I5 := I.laid (t' := tk) (a := h'.objs.size) (o := .lst (ts.map V.ref)) (fun b o e => hold b o (k1 b o e)) (Nat.le_of_lt k2) ⟨by rw [List.length_map, lts, k3]; exact hen, fin, ep2, by rw [← hts]; exact LiI.vals_refs ts, hat⟩
    have nf : H h'.objs.size = none := I.hok.fresh (Nat.le_of_lt k2)
    obtain ⟨H2, I6, e6, t6⟩ := DX.takeT (P := fun t vs => vs = [V.int (pairAt h' (.ref t)).1, V.int (pairAt h' (.ref t)).2]) I as _ I5 (M.rise.imp fun h => Nat.ne_of_lt h) (fun t ht => by
      obtain ⟨j, hj, e⟩ := List.getElem_of_mem ht
      obtain ⟨q, t1, t2, hq, e1, hh⟩ := hpa j t (by rw [List.getElem?_eq_getElem hj, e])
      have lo := M.above t ht
      have hi : t < h'.objs.size := M.there ht
      refine ⟨Nat.le_of_lt lo, by rw [upd_ne (Nat.ne_of_lt hi)]; exact I.hok.fresh (Nat.le_of_lt lo), _, rfl, fun H2 => ?_⟩
      rw [e1]
      exact ⟨by show 2 ≤ _; decide +kernel, _, .cons ⟨t1, rfl⟩ (.cons ⟨t2, rfl⟩ .nil), ⟨_, hold _ _ hh, rfl, 0, rfl⟩⟩)
    refine ⟨.ref _, H2, I6, rfl, q H2 _ ts qs (fun b o e => e6 b o (Same.fresh nf b o e)) nf (e6 _ _ upd_same) hqp ?_ hord⟩
    have hall : ∀ l : List Addr, (∀ t ∈ l, t ∈ as) → Paired (fun t q => H t = none ∧ H2 t = some (.tup [.int q.1, .int q.2])) l (l.map fun t => pairAt h' (.ref t)) := by
      intro l
      induction l with
      | nil => exact fun _ => .nil
      | cons t l ih =>
        intro hm
        have ht := hm t (List.mem_cons_self ..)
        obtain ⟨vs, ev, e⟩ := t6 t ht
        subst ev
        exact .cons ⟨I.hok.fresh (Nat.le_of_lt (M.above t ht)), e⟩ (ih fun t ht => hm t (List.mem_cons_of_mem _ ht))
    exact hall ts fun t ht => hpt.mem_iff.mp ht
/-! with K named -/
theorem cr_sortedRevTK {X : Cx} {K : PySem.W.Frag} {b : Bool} (hK : X.K = K := by rfl) : CallRK X (.builtin "sorted") [Str.ofString "reverse"] (rSortRevT K b) := by subst hK; exact cr_sortedRevT
theorem cr_maxDefK {X : Cx} {K : PySem.W.Frag} (hc : X.calm = true) (hu : X.A.units + 64 < cLine) (hK : X.K = K := by rfl) : CallRK X (.builtin "max") [Str.ofString "default"] (rMaxDef K) := by subst hK; exact cr_maxDef hc hu
theorem get_listK {X : Cx} {K : PySem.W.Frag} (hK : X.K = K := by rfl) : PGet X (rGetL K) := by subst hK; exact get_list
end KX

namespace KX
open PySem PySem.Spec PyProof.Rows L2
/-! ### sum of a tuple of whole numbers -/
def rSumT (K : PySem.W.Frag) : List V → Hp → VK → Prop := fun vs H Q => ∃ (a : Addr) (ns : List Int), vs = [V.ref a] ∧ SqT K H a (ns.map V.int) ∧ Q (.int ns.sum) H
theorem cr_sumT {X : Cx} (hc : X.calm = true) : CallR X (.builtin "sum") (rSumT X.K) := by
  intro pins s σ H vs us Q I r h
  obtain ⟨a, ns, rfl, hs, q⟩ := h
  obtain ⟨its, rv, ht, _⟩ := I.tuple hs
  rw [Vals.ref1 r]
  have hi := rv.ints
  obtain ⟨o, ho, hc', n, hd⟩ := ht
  have hl : s.heap.IsTuple a its.toArray := ⟨o, ho, hc', n, hd⟩
  obtain ⟨xs, hx⟩ := hi.allInts.items
  have hn : PySem.numsOf its.toArray.toList = ns := by rw [show its.toArray.toList = its from rfl, hi.numsOf]
  rw [hx] at hl hn
  rw [nums_intItems] at hn
  refine PySem.W.ktm_sumG (I.ok.hd hc) hl fun h' tk t' hk => ?_
  rw [preSum_eq, List.take_of_length_le (by simp), hn]
  exact ⟨.int _, H, I.kept hk, ⟨_, rfl⟩, q⟩
theorem cr_sumTK {X : Cx} {K : PySem.W.Frag} (hc : X.calm = true) (hK : X.K = K := by rfl) : CallR X (.builtin "sum") (rSumT K) := by subst hK; exact cr_sumT hc
theorem rd_sumT {K : PySem.W.Frag} {H : Hp} {Q : VK} {p : Addr} {ns : List Int} (ha : Tup H p (ns.map V.int)) (h : Q (.int ns.sum) H) : rSumT K [.ref p] H Q := ⟨p, ns, rfl, ha.sq, h⟩
/-! ### tuples whose objects are known -/
theorem pe_tupleFK {X : Cx} {K : PySem.W.Frag} {a : Expr} {ta : TE} {p pos : Pos} (hg : Gl X "tuple") (hm : X.mg "tuple" = none) (ha : PE X a ta)
    (na : starEach [a] X.env = (false, eval a X.env) :: starEach [] X.env := by rfl) (hK : X.K = K := by rfl) :
    PE X (.Call (.Name "tuple" p) [a] [] pos) (tThen ta (kTupF K)) := by subst hK; exact pe_tupleF hg hm ha na
theorem rd_tupF {K : PySem.W.Frag} {H : Hp} {Q : VK} {p : Addr} {xs : List V} (ha : H p = some (.lst xs)) (h : ∀ H' q, Same H H' → H q = none → TupF H' q xs → Q (.ref q) H') : kTupF K (.ref p) H Q :=
  ⟨p, xs, rfl, SqL.of ha, fun q o n h1 h2 => h _ q (Same.fresh n) n ⟨o, upd_same, h1, h2⟩⟩
def tTupF (t : TA) : TE := fun σ H Q => t σ H fun xs H1 => xs.length ≤ sizeLine ∧ ∀ H' p, Same H1 H' → TupF H' p xs → Q (.ref p) H'
theorem pe_tupF {X : Cx} {es : List Expr} {t : TA} {pos : Pos} {x1} (h : PA X es t) : PE X (.Tuple es x1 pos) (tTupF t) := by
  refine ⟨fun pins s σ H Q I hq => ?_⟩
  refine wpAny_Tuple_spliced (thn (h.run pos pins s σ H _ I hq) fun us s1 ⟨xs, H1, I1, r, z, q⟩ => ⟨by rw [← r.length]; exact z, ?_⟩)
  have hf : H1 s1.heap.objs.size = none := I1.hok.fresh (Nat.le_refl _)
  refine ⟨.ref s1.heap.objs.size, upd H1 s1.heap.objs.size (.frz { cls := .type "tuple", data := .seq us.toArray } (.tup xs)), I1.laid (t' := s1.toks) (fun b u e => Heap.get?_push_of_some _ e) (Nat.le_refl _) ?_, rfl, q _ _ (Same.fresh hf) ⟨_, upd_same, rfl, rfl⟩⟩
  exact ⟨Heap.get?_push_size _ rfl, z, us, r, ⟨_, Heap.get?_push_size _ rfl, rfl, _, rfl⟩⟩
theorem rd_tupFd {t : TA} {σ : L2.St} {H : Hp} {Q : VK} (h : t σ H fun xs H1 => xs.length ≤ sizeLine ∧ ∀ H' p, Same H1 H' → TupF H' p xs → Q (.ref p) H') : tTupF t σ H Q := h
/-- (v,) * k of any small number, the object known -/
def rRepF : R2 := fun x y H Q => ∃ (l : Addr) (k : Nat) (v : V), x = .ref l ∧ y = .int k ∧ TupF H l [v] ∧ k ≤ 1000 ∧ ∀ H' a, Same H H' → TupF H' a (List.replicate k v) → Q (.ref a) H'
theorem op_repF {X : Cx} : OpR X (binaryOp .Mult) rRepF := by
  intro pins s σ H x y v u Q I rx ry h
  obtain ⟨l, k, w, e1, e2, hx, hk, hQ⟩ := h
  subst e1
  subst e2
  cases rx
  obtain ⟨t, rfl⟩ := ry
  obtain ⟨its, r, ht, hz⟩ := I.tuple hx.tup.sq
  have hl : its.length = 1 := r.length.symm
  obtain ⟨o, ho, hc, n, hd⟩ := ht
  obtain ⟨oc, od, oda, osl⟩ := o
  cases hc
  cases hd
  have ht : IsTup s.heap l its.toArray := ⟨_, ho, rfl, n, rfl⟩
  have hne : its.toArray.isEmpty = false := by
    cases its with
    | nil => simp at hl
    | cons a b => rfl
  by_cases c2 : 2 ≤ k
  · have hsz0 : its.toArray.size = 1 := by rw [List.size_toArray, hl]
    have flen : (List.replicate k its).flatten.length ≤ sizeLine := by
      rw [PyProof.Rows.lm_len_rep_flat, hl, sizeLine_eq]; omega
    have en : ((k : Nat) : Int).toNat = k := by omega
    have c0 : (decide (((k : Nat) : Int) < -(2 ^ 63)) || decide (((k : Nat) : Int) ≥ 2 ^ 63)) = false := by
      rw [decide_eq_false (by omega), decide_eq_false (by omega)] <;> rfl
    have c1 : (its.toArray.isEmpty || ((k : Nat) : Int) == 1) = false := by
      rw [hne, Bool.false_or]
      exact beq_eq_false_iff_ne.mpr (by omega)
    have c3 : (decide (((k : Nat) : Int) ≤ 0) || its.toArray.isEmpty) = false := by
      rw [hne, Bool.or_false]
      exact decide_eq_false (by omega)
    have c4 : Builtin.Tuple.tupleTooMany (((its.toArray.size : Nat) : Int) * ((k : Nat) : Int)) = false := by
      unfold Builtin.Tuple.tupleTooMany
      rw [sizeLine_eq, hsz0]
      exact decide_eq_false (by omega)
    refine wpAny_binaryOp_repeat_ref (T := "tuple") (U := "int") (by decide) ⟨_, ho, rfl⟩ (fun s' => typeIs_int s' _ t) noFill_tuple_mul F.fills_int_mul F.slot_int_rmul repeat_tuple F.slot_int_index.lookup
      (call_meets F.slot_int_rmul (typeIs_int s _ t) F.entry_int_rmul (F.args_int_rmul_2 _ _) (int_rmul_tuple _ t l its.toArray n od osl)
        ⟨ho, rfl, ⟨_, ho, rfl⟩, call_meets F.slot_tuple_mul ⟨_, ho, rfl⟩ F.entry_tuple_mul (F.args_tuple_mul_2 _ _) (tuple_mulW l its.toArray n od osl _ t c0 c1 c3 (by rw [hsz0]; omega) c4 (by rw [size_rep, List.size_toArray, en]; exact flen)) ⟨ho, ?_⟩⟩)
    rw [size_rep, en]
    have hf : H s.heap.objs.size = none := I.hok.fresh (Nat.le_refl _)
    refine ⟨.ref s.heap.objs.size, _, I.laid (t' := s.toks) (o := .frz { cls := .type "tuple", data := .seq (List.replicate k its).flatten.toArray } (.tup (List.replicate k [w]).flatten)) (fun b ob q => Heap.get?_push_of_some _ q) (Nat.le_refl _) ?_, rfl, hQ _ _ (Same.fresh hf) ⟨_, by rw [upd_same, flat_one], rfl, rfl⟩⟩
    exact ⟨Heap.get?_push_size _ rfl, by rw [flat_one, List.length_replicate, sizeLine_eq]; omega, _, r.rep k, IsTup.new _ _⟩
  · refine wpAny_binaryOp_repeat_ref (T := "tuple") (U := "int") (id := "tuple.__mul__") (idr := "int.__rmul__") (ix := .builtin "int.__index__") (by decide) ht.typeIs (fun s' => rfl) L2.noFill_tuple_mul (by with_unfolding_all rfl) F.slot_int_rmul L2.repeat_tuple (by with_unfolding_all rfl) ?_
    refine call_meets F.slot_int_rmul rfl F.entry_int_rmul (by with_unfolding_all rfl) (L2.int_rmul_tuple _ t l its.toArray n od osl) ⟨ho, rfl, ht.typeIs, ?_⟩
    refine wpAny_call_entry F.slot_tuple_mul ht.typeIs F.entry_tuple_mul ?_ (F.args_tuple_mul_2 _ _)
    have hk2 : k = 1 ∨ k = 0 := by omega
    rcases hk2 with rfl | rfl
    · show wpAny _ _ (asIndex (.int 1 t) >>= _) _ _ s
      refine wpAny_bind (m := asIndex (.int 1 t)) (wpAny_bind (wpAny_pure (wpAny_pure ?_)))
      show wpAny _ _ (Builtin.Tuple.tupleItemsOf (.ref l) >>= _) _ _ s
      refine wpAny_bind (tupleItemsOf_ ht ?_)
      show wpAny _ _ (if (its.toArray.isEmpty || (1 : Int) == 1) = true then _ else _) _ _ s
      rw [if_pos (by rw [hne]; decide)]
      refine wpAny_bind (m := Builtin.Tuple.tupleIsExact (.ref l)) (wpAny_bind (wpAny_typeOf ht.typeIs (wpAny_pure ?_)))
      rw [if_pos (by decide)]
      have fin := hQ H l (Same.refl H) hx
      first
        | exact wpAny_bind (wpAny_rule (wpAny_pure ⟨_, rfl, .ref l, H, I, rfl, fin⟩))
        | exact wpAny_bind (wpAny_pure (wpAny_pure ⟨_, rfl, .ref l, H, I, rfl, fin⟩))
        | exact wpAny_pure ⟨_, rfl, .ref l, H, I, rfl, fin⟩
    · show wpAny _ _ (asIndex (.int 0 t) >>= _) _ _ s
      refine wpAny_bind (m := asIndex (.int 0 t)) (wpAny_bind (wpAny_pure (wpAny_pure ?_)))
      show wpAny _ _ (Builtin.Tuple.tupleItemsOf (.ref l) >>= _) _ _ s
      refine wpAny_bind (tupleItemsOf_ ht ?_)
      show wpAny _ _ (if (its.toArray.isEmpty || (0 : Int) == 1) = true then _ else _) _ _ s
      rw [if_neg (by rw [hne]; decide)]
      show wpAny _ _ (if (decide ((0 : Int) ≤ 0) || its.toArray.isEmpty) = true then _ else _) _ _ s
      rw [if_pos (by rw [hne]; decide)]
      have hf : H s.heap.objs.size = none := I.hok.fresh (Nat.le_refl _)
      have I5 : Inv X pins σ (upd H s.heap.objs.size (.frz { cls := .type "tuple", data := .seq #[] } (.tup []))) { s with heap := s.heap.push { cls := .type "tuple", data := .seq #[] } } :=
        I.laid (t' := s.toks) (o := .frz { cls := .type "tuple", data := .seq #[] } (.tup [])) (fun b ob q => Heap.get?_push_of_some _ q) (Nat.le_refl _) ⟨Heap.get?_push_size _ rfl, by decide +kernel, _, .nil, IsTup.new _ _⟩
      refine wpAny_bind (m := Builtin.Tuple.tupleExact _) (wpAny_newObj_type ?_ (by show (0 : Nat) ≤ _; exact Nat.zero_le _))
      refine wpAny_pure ⟨_, rfl, .ref _, _, I5, rfl, hQ _ _ (Same.fresh hf) ⟨_, upd_same, rfl, rfl⟩⟩
/-! ### methods of a tuple whose object is known, of a dict of whole numbers -/
theorem mt_tcountK {X : Cx} {K : PySem.W.Frag} (hK : X.K = K := by rfl) : MtR X "tuple.count" (rCntT K) := by subst hK; exact mt_tcount
theorem rd_bmF {r : V → List V → Hp → VK → Prop} {to : TE} {t : TA} {σ : L2.St} {H : Hp} {Q : VK} (h : to σ H fun x H1 => (∃ a xs, x = .ref a ∧ TupF H1 a xs) ∧ t σ H1 fun ys H2 => r x ys H2 Q) : tBMF r to t σ H Q := h
theorem pe_bm0T {X : Cx} {K : PySem.W.Frag} {T id : String} {name : Str} {r : V → List V → Hp → VK → Prop} {o : Expr} {to : TE} {apos cpos : Pos} (pa : PlainAttrs T) (slot : Slot T name id) (hty : typeOf (.builtin id) = pure (.type "method_descriptor")) (hm : MtR X id r) (ho : PE X o to)
    (hbase : attributeBase o name X.env (eval o X.env) = eval o X.env := by rfl) (hline : (apos.endLine == cpos.line) = true := by rfl) (hK : X.K = K := by rfl) : PE X (.Call (.Attribute o name apos) [] [] cpos) (tBM0 K T r to) := by
  subst hK; exact pe_bm0 pa slot hty hm ho hbase hline
theorem rd_tyD {K : PySem.W.Frag} {p : Addr} {H : Hp} {kvs : List (Key × V)} {R : Prop} (ha : H p = some (.dK kvs)) (h : R) : tyV K "dict" (.ref p) H ∧ R := ⟨.inr (.inr (.inl ⟨rfl, .inl ⟨kvs, ha⟩⟩)), h⟩
end KX

namespace KX
open PySem PySem.Spec PyProof.Rows L2
/-! ### a try with several clauses, each with a name or without -/
/-- caught: what is known while the clauses are asked one by one -/
structure Caught (X : Cx) (pins : List (Addr × Obj)) (σ : L2.St) (H : Hp) (cls : Value) (d : Option Addr) (a : Addr) (B : Heap) (sI s : Shared) : Prop where
  inv : Inv X pins σ H sI
  nb : ∀ b o, sI.heap.get? b = some o → b ∉ frs X.stack → B.get? b = some o
  up : sI.heap.UpToSlots s.heap
  fly : HandSPX.FlyingZ B (X.env :: X.outer) a (Zc cls d) s.heap
  free : H a = none
  os : s.os = sI.os
  bare : AllBare s.gens
theorem Caught.again {X : Cx} {pins : List (Addr × Obj)} {σ : L2.St} {H : Hp} {cls : Value} {d : Option Addr} {a : Addr} {B h' : Heap} {sI s : Shared} (c : Caught X pins σ H cls d a B sI s)
    (f : HandSPX.FlyingZ B (X.env :: X.outer) a (Zc cls d) h') (u : s.heap.UpToSlots h') : Caught X pins σ H cls d a B sI { s with heap := h' } :=
  ⟨c.inv, c.nb, c.up.trans u, f, c.free, c.os, c.bare⟩
theorem Caught.held {X : Cx} {pins : List (Addr × Obj)} {σ : L2.St} {H : Hp} {cls : Value} {d : Option Addr} {a : Addr} {B : Heap} {sI s : Shared} (c : Caught X pins σ H cls d a B sI s) (hf : X.env.frame = some X.env.locals) :
    ∃ oe, s.heap.get? a = some oe ∧ Zc cls d oe ∧ (∃ vs, oe.data = .fields vs) ∧ Inv (X.suite a ((a, oe) :: (X.pn ++ pins))) [] σ H s := by
  obtain ⟨oe, vs, e1, e2, e3⟩ := c.fly.there
  have out : a ∉ frs (X.env :: X.outer) := by
    intro m
    obtain ⟨_, o, e4, nf⟩ := c.fly.2.2.1.mem m
    rw [e1] at e4
    exact nf _ (by rw [← Option.some.inj e4]; exact e3)
  have n1 : a ≠ X.env.locals := by
    intro z
    refine out (List.mem_filterMap.mpr ⟨X.env, List.mem_cons_self, ?_⟩)
    rw [hf, z]
  have n2 : a ∉ X.fs := by
    intro m
    obtain ⟨e, he, q⟩ := List.mem_filterMap.mp m
    exact out (List.mem_filterMap.mpr ⟨e, List.mem_cons_of_mem _ he, q⟩)
  exact ⟨oe, e1, e2, ⟨vs, e3⟩, (c.inv.landed c.nb c.fly.1 c.up c.os c.bare).suite e1 e3 c.free n1 n2⟩
/-- the clauses, asked one by one, bring about what W wishes -/
def Hears (X : Cx) (hds : List ExceptHandler) (W : Ends → WX) : Prop :=
  ∀ (pins : List (Addr × Obj)) (σ : L2.St) (H : Hp) (cls : Value) (d : Option Addr) (a : Addr) (B : Heap) (sI s : Shared) (D : Ends), Caught X pins σ H cls d a B sI s → W D cls d σ H →
    wpAny (model X.prog X.w) X.A (handleBy (.ref a) X.env hds) (SP X pins D) X.xe s
theorem hears_nil {X : Cx} {Wout : WX} (hs : X.stack = X.env :: X.outer) (hf : X.env.frame = some X.env.locals) (tk : Takes X Wout) : Hears X [] fun _ => Wout := by
  intro pins σ H cls d a B sI s D c w
  refine wpAny_handleBy_nil ?_
  obtain ⟨_, _, _, oe, vs, T, oT, ts', he, hz, hd, h1, hr⟩ := id c.fly
  unfold PySem.passOn
  refine wpAny_bind (wpAny_field he hd h1 ?_)
  have ne : ¬ ((Value.ref T == Value.none) = true) := by simp
  rw [if_neg ne]
  have on : wpAny (model X.prog X.w) X.A (setFlight (.ref a) X.env.frame) (fun _ s' => wpAny (model X.prog X.w) X.A (throw (.ref a) : Sem Flow) (SP X pins D) X.xe s') X.xe s := by
    rw [hf]
    refine HandSPX.setFlight_upZ c.fly fun h' hh up => wpAny_throw (tk _ _ ?_)
    refine ⟨a, B, sI, pins, σ, H, cls, d, rfl, c.inv, c.nb, c.up.trans up, ?_, c.free, c.os, c.bare, w⟩
    rw [hs]
    exact .inr (.inr hh)
  first
    | exact wpAny_bind (wpAny_pure (wpAny_bind on))
    | exact wpAny_bind on
/-- which class a clause names -/
theorem clause_asked {X : Cx} {x : Str} {np : Pos} {c : Value} {a : Addr} {q : Addr × Obj} {l : List (Addr × Obj)} {σ : L2.St} {H : Hp} {s : Shared} {Q : Value → Shared → Prop} {E : Value → Shared → Prop} (hc : Names X x c) (S : Inv (X.suite a (q :: l)) [] σ H s) (h : Q c s) :
    wpAny (model X.prog X.w) (X.A.mark (some (.ref a))) (eval (.Name x np) X.env) Q E s := by
  obtain ⟨g, db, m | ⟨m, v, nn⟩⟩ := hc
  · exact ld_glob (X := X.suite a (q :: l)) S g m h db
  · exact ld_blt (X := X.suite a (q :: l)) S g m v h nn db
/-- what 'except x as n' wishes: n's slot is i; behind it come W's -/
def wNamed (K : PySem.W.Frag) (c : Value) (i : Nat) (ts : Addr → Value → Option Addr → TS) (W : Ends → WX) : Ends → WX := fun D cls d σ H =>
  ∃ b, PySem.W.exmOne K cls c = some b ∧
    (b = true → ∀ a, H a = none → ts a cls d ⟨fun σ' => D.nx (σ'.set i none), D.rt, fun σ' => D.bk (σ'.set i none), fun σ' => D.ct (σ'.set i none)⟩ (σ.set i (some (.ref a))) H) ∧ (b = false → W D cls d σ H)
/-- what 'except x' wishes -/
def wPlain (K : PySem.W.Frag) (c : Value) (ts : Addr → Value → Option Addr → TS) (W : Ends → WX) : Ends → WX := fun D cls d σ H =>
  ∃ b, PySem.W.exmOne K cls c = some b ∧ (b = true → ∀ a, H a = none → ts a cls d D σ H) ∧ (b = false → W D cls d σ H)
section
variable {X : Cx} {x n : Str} {c : Value} {i : Nat} {suite : List Stmt} {b₀ : Stmt} {np pos' : Pos} {ts : Addr → Value → Option Addr → TS} {W : Ends → WX} {hds : List ExceptHandler}
theorem hears_named (hf : X.env.frame = some X.env.locals) (hN : X.N.Nodup) (hi : X.N[i]? = some n) (hln : X.env.kindOf n = some .local) (hc : Names X x c)
    (hsu : ∀ (a : Addr) (oe : Obj) (cls : Value) (d : Option Addr) (pn : List (Addr × Obj)), Zc cls d oe → (∃ vs, oe.data = .fields vs) → PSs (X.suite a ((a, oe) :: pn)) (b₀ :: suite) (ts a cls d)) (r : Hears X hds W) :
    Hears X (.ExceptHandler (some (.Name x np)) (some n) (b₀ :: suite) pos' :: hds) (wNamed X.K c i ts W) := by
  intro pins σ H cls d a B sI s D C w
  obtain ⟨b, e, yes, no⟩ := w
  obtain ⟨oe, g, z, dd, S⟩ := C.held hf
  refine wpAny_handleBy_cons (codeAny_handlers_test (clause_asked hc S ?_)) (by intro y; cases y)
  have ty : PySem.W.Looks (model X.prog X.w) s.heap (typeOf (.ref a)) cls := fun A Q E s' k y => wpAny_typeOf_ref (k _ _ g) (by rw [z.1]; exact y)
  refine (PySem.W.exm_one (M := model X.prog X.w) S.kIn ty e).here ?_
  cases b with
  | false => exact r pins σ H cls d a B sI s D C (no rfl)
  | true =>
    refine codeAny_handlers_suite_as (HandSPX.lands_againZ C.fly fun h' f u => ?_)
    obtain ⟨oe', g', z', dd', S'⟩ := (C.again f u).held hf
    refine store_ok (X := X.suite a ((a, oe') :: (X.pn ++ pins))) (v := .ref a) S' hN hi (.inl hln) rfl (fun s5 S5 => ?_) (.inr hln)
    refine wpAny_mono ((hsu a oe' cls d (X.pn ++ pins) z' dd').run [] s5 _ H _ S5 (yes rfl a C.free)) (fun f s6 out => ?_) (fun _ _ y => y.elim)
    have bye : ∀ {τ : L2.St} {G : Hp} {R : Shared → Prop}, Inv (X.suite a ((a, oe') :: (X.pn ++ pins))) [] τ G s6 → (∀ s7, Inv X pins (τ.set i none) G s7 → R s7) →
        wpAny (model X.prog X.w) X.A (do bindName X.env n .none; unbindBehindTheSuite X.env n pos') (fun _ => R) X.xe s6 := fun J k => gone_ok (J.unsuite C.inv.ok) hN hi hln k
    match f, out with
    | .next, ⟨_, _, J, q⟩ => exact bye J fun _ J7 => ⟨_, _, J7, q⟩
    | .brk, ⟨_, _, J, q⟩ => exact bye J fun _ J7 => ⟨_, _, J7, q⟩
    | .cont, ⟨_, _, J, q⟩ => exact bye J fun _ J7 => ⟨_, _, J7, q⟩
    | .ret _, ⟨_, _, _, J, r6, q⟩ => exact bye J fun _ J7 => ⟨_, _, _, J7, r6, q⟩
theorem hears_plain (hf : X.env.frame = some X.env.locals) (hc : Names X x c)
    (hsu : ∀ (a : Addr) (oe : Obj) (cls : Value) (d : Option Addr) (pn : List (Addr × Obj)), Zc cls d oe → (∃ vs, oe.data = .fields vs) → PSs (X.suite a ((a, oe) :: pn)) (b₀ :: suite) (ts a cls d)) (r : Hears X hds W) :
    Hears X (.ExceptHandler (some (.Name x np)) none (b₀ :: suite) pos' :: hds) (wPlain X.K c ts W) := by
  intro pins σ H cls d a B sI s D C w
  obtain ⟨b, e, yes, no⟩ := w
  obtain ⟨oe, g, z, dd, S⟩ := C.held hf
  refine wpAny_handleBy_cons (codeAny_handlers_test (clause_asked hc S ?_)) (by intro y; cases y)
  have ty : PySem.W.Looks (model X.prog X.w) s.heap (typeOf (.ref a)) cls := fun A Q E s' k y => wpAny_typeOf_ref (k _ _ g) (by rw [z.1]; exact y)
  refine (PySem.W.exm_one (M := model X.prog X.w) S.kIn ty e).here ?_
  cases b with
  | false => exact r pins σ H cls d a B sI s D C (no rfl)
  | true =>
    refine codeAny_handlers_suite (HandSPX.lands_againZ C.fly fun h' f u => ?_)
    obtain ⟨oe', g', z', dd', S'⟩ := (C.again f u).held hf
    refine wpAny_mono ((hsu a oe' cls d (X.pn ++ pins) z' dd').run [] _ _ H _ S' (yes rfl a C.free)) (fun f s6 out => ?_) (fun _ _ y => y.elim)
    match f, out with
    | .next, ⟨_, _, J, q⟩ => exact ⟨_, _, J.unsuite C.inv.ok, q⟩
    | .brk, ⟨_, _, J, q⟩ => exact ⟨_, _, J.unsuite C.inv.ok, q⟩
    | .cont, ⟨_, _, J, q⟩ => exact ⟨_, _, J.unsuite C.inv.ok, q⟩
    | .ret _, ⟨_, _, _, J, r6, q⟩ => exact ⟨_, _, _, J.unsuite C.inv.ok, r6, q⟩
theorem ps_try_hears {body : List Stmt} {h₀ : ExceptHandler} {pos : Pos} {tb : WX → TS} (hs : X.stack = X.env :: X.outer) (hf : X.env.frame = some X.env.locals)
    (hb : ∀ (W' : WX) (pn : List (Addr × Obj)) (xe : Value → Shared → Prop), Takes (X.tr pn xe) W' → PassesOwn (model X.prog X.w) X.A X.env xe → PSs (X.tr pn xe) body (tb W'))
    (hh : Hears X (h₀ :: hds) W) : PS X (.Try body (h₀ :: hds) [] [] pos) (fun D σ H => tb (W D) D σ H) := by
  constructor
  intro pins s σ H D I h
  let xe : Value → Shared → Prop := fun e s₁ => wpAny (model X.prog X.w) X.A (noteFrame e X.env) (fun _ s₂ => wpAny (model X.prog X.w) X.A (setFlight e none)
    (fun _ s₃ => wpAny (model X.prog X.w) X.A (handleBy e X.env (h₀ :: hds)) (SP X pins D) X.xe s₃) X.xe s₂) X.xe s₁
  have fr : X.A.frames = some (X.env :: X.outer) := by rw [I.ok.frames, hs]
  have caught : Takes (X.tr (X.pn ++ pins) xe) (W D) := by
    intro u s' air
    obtain ⟨a, B, sI, pn', σ', H', cls, d, rfl, J, nb, up, sky, na, os, ag, w⟩ := air
    have sky : Sky B X.stack a (Zc cls d) X.env.locals s'.heap := sky
    rw [hs] at sky
    refine Sky.land Zc.steady fr hf sky fun h3 fl up3 => ?_
    exact hh pins σ' H' cls d a B sI { s' with heap := h3 } D ⟨J.ofTry I.ok, nb, up.trans up3, fl, na, os, ag⟩ w
  refine wpAny_Try_except (wpAny_mono ((hb (W D) (X.pn ++ pins) xe caught PassesOwn.looking).run [] s σ H D (I.toTry _) h) (fun f s1 out => ?_) (fun e s1 he => he))
  match f, out with
  | .next, ⟨_, _, J, q⟩ => exact wpAny_execs_nil ⟨_, _, J.ofTry I.ok, q⟩
  | .brk, ⟨_, _, J, q⟩ => exact ⟨_, _, J.ofTry I.ok, q⟩
  | .cont, ⟨_, _, J, q⟩ => exact ⟨_, _, J.ofTry I.ok, q⟩
  | .ret _, ⟨_, _, _, J, r, q⟩ => exact ⟨_, _, _, J.ofTry I.ok, r, q⟩
end
end KX

namespace KX
open PySem PySem.Spec PyProof.Rows L2 RZ
/-! ### zip of a tuple and a list -/
/-- the tuple at a and the list at b as they stand at each turn, the items in new pairs -/
def ItzM (K : PySem.W.Frag) (a b : Addr) : It where
  go i H := ∃ (xs ys : List V) (x y : V), SqT K H a xs ∧ SqL K H b ys ∧ xs[i]? = some x ∧ ys[i]? = some y
  yld i H v H' := ∃ T x y, v = .ref T ∧ H T = none ∧ H' = upd H T (.tup [x, y]) ∧ (∀ xs, SqT K H a xs → xs[i]? = some x) ∧ ∀ ys, SqL K H b ys → ys[i]? = some y
  stop i H := ∃ xs ys : List V, SqT K H a xs ∧ SqL K H b ys ∧ i ≤ xs.length ∧ i ≤ ys.length ∧ (i = xs.length ∨ i = ys.length)
/-- the five cells of such a zip, the object sizes told from n on -/
def zipCells (n : Nat) : List Addr := [n + 4, n + 2, n + 3, n, n + 1]
def ZipM (n a b i : Nat) (h : Heap) : Prop := IsZip h (n + 4) (n + 2) (n + 3) .none ∧ IsPair h (n + 2) (.ref n) (.ref (n + 1)) ∧ (∃ x y, IsPair h (n + 3) x y) ∧ h.IsTupleIter n a i ∧ h.IsListIter (n + 1) b i
theorem mem_cells {n c : Nat} : c ∈ zipCells n ↔ c = n + 4 ∨ c = n + 2 ∨ c = n + 3 ∨ c = n ∨ c = n + 1 := by
  unfold zipCells
  simp
theorem sepM {n a b : Nat} (ha : a < n) (hb : b < n) : ZipSep2 (n + 4) (n + 2) (n + 3) n (n + 1) [n, a] [n + 1, b] := by
  have nm : ∀ {x y z : Nat}, x ≠ y → x ≠ z → x ∉ [y, z] := fun h1 h2 m => by
    simp at m
    omega
  exact ⟨show n + 2 ≠ n + 4 by omega, show n + 3 ≠ n + 4 by omega, show n + 2 ≠ n + 3 by omega, show n + 2 ≠ n by omega, by simp, nm (by omega) (by omega), nm (by omega) (by omega),
    show n + 2 ≠ n + 1 by omega, by simp, nm (by omega) (by omega), nm (by omega) (by omega), nm (by omega) (by omega), nm (by omega) (by omega)⟩
theorem turn_zipM {P : Program} {w : World} {K : PySem.W.Frag} {elts : List Expr} {kk : Nat} {tpos : Pos} {a b : Addr} {n : Nat} (ha : a < n) (hb : b < n) :
    Turn P w K (.Tuple elts kk tpos) (ItzM K a b) (zipCells n) (n + 4 : Nat) (ZipM n a b) where
  mem := mem_cells.mpr (.inl rfl)
  obj i h st c hc := by
    obtain ⟨z1, z2, ⟨x, y, z3⟩, ⟨o1, e1, _, d1⟩, ⟨o2, e2, _, d2⟩⟩ := st
    rcases mem_cells.mp hc with rfl | rfl | rfl | rfl | rfl
    · exact ⟨_, z1, fun v q => nomatch q⟩
    · exact ⟨_, z2, fun v q => nomatch q⟩
    · exact ⟨_, z3, fun v q => nomatch q⟩
    · exact ⟨o1, e1, fun v q => by rw [d1] at q; cases q⟩
    · exact ⟨o2, e2, fun v q => by rw [d2] at q; cases q⟩
  keep i h h' st k := by
    have k' := fun c hc => k c (mem_cells.mpr hc)
    obtain ⟨z1, z2, ⟨x, y, z3⟩, t1, t2⟩ := st
    exact ⟨k' _ (.inl rfl) _ z1, k' _ (.inr (.inl rfl)) _ z2, ⟨x, y, k' _ (.inr (.inr (.inl rfl))) _ z3⟩, t1.at fun o q => k' _ (.inr (.inr (.inr (.inl rfl)))) o q, t2.at fun o q => k' _ (.inr (.inr (.inr (.inr rfl)))) o q⟩
  item X hP hw hK hc i pins s σ H E I hf st hg := by
    subst hP hw hK
    obtain ⟨z1, z2, ⟨x0, y0, z3⟩, t1, t2⟩ := st
    obtain ⟨xs, ys, x, y, qx, qy, ex, ey⟩ := hg
    obtain ⟨us, rv, p1, _⟩ := I.tuple qx
    obtain ⟨vs, rv2, p2, _⟩ := I.list qy
    obtain ⟨u, hu, ru⟩ := rv.get ex
    obtain ⟨u2, hu2, ru2⟩ := rv2.get ey
    have hi1 : i < us.toArray.size := by have := (List.getElem?_eq_some_iff.mp hu).1; simpa using this
    have hi2 : i < vs.toArray.size := by have := (List.getElem?_eq_some_iff.mp hu2).1; simpa using this
    have D1 := Draws.tuple (prog := X.prog) (w := X.w) (A := X.A.in1) (I.ok.hd hc) n a (Nat.ne_of_lt ha) us.toArray
    have D2 := Draws.list (prog := X.prog) (w := X.w) (A := X.A.in1) (I.ok.hd hc) (n + 1) b (Nat.ne_of_lt (Nat.lt_succ_of_lt hb)) vs.toArray
    have lz : n + 4 < s.heap.objs.size := Heap.lt_size z1
    refine wpAny_pyNext_zipD2_item (sepM ha hb) D1 D2 z1 z2 z3 ⟨t1, p1⟩ ⟨t2, p2.isList⟩ hi1 hi2 fun w1 w2 h' tk y1 y2 b1 b2 st1 st2 bT bs keep => ?_
    have e1 : w1 = u := by
      have y1 : us.toArray[i]? = some w1 := y1
      rw [List.getElem?_toArray, hu] at y1
      exact (Option.some.inj y1).symm
    have e2 : w2 = u2 := by
      have y2 : vs.toArray[i]? = some w2 := y2
      rw [List.getElem?_toArray, hu2] at y2
      exact (Option.some.inj y2).symm
    subst e1 e2
    refine ⟨_, rfl, wpAny_letOwnedTupleGo_zip (s := { s with heap := h', toks := tk }) b1 fun h'' z1' sb => ?_⟩
    have hT : h''.get? s.heap.objs.size = some { cls := .type "tuple", data := .seq #[w1, w2] } := (sb.2 _ (Nat.ne_of_gt lz)).trans bT
    have ok : ObjOk X.prog X.w (upd H s.heap.objs.size (.tup [x, y])) h'' s.heap.objs.size (.tup [x, y]) := ⟨by show 2 ≤ sizeLine; decide, [w1, w2], .cons ru (.cons ru2 .nil), _, hT, rfl, _, rfl⟩
    have all : ∀ c o, c ∉ zipCells n → s.heap.get? c = some o → h''.get? c = some o := fun c o hc' q => by
      have hc' := fun z => hc' (mem_cells.mpr z)
      refine (sb.2 c fun z => hc' (.inl z)).trans (keep c o (fun z => hc' (.inl z)) (fun z => hc' (.inr (.inr (.inl z)))) (fun z => hc' (.inr (.inr (.inr (.inl z))))) (fun z => hc' (.inr (.inr (.inr (.inr z))))) q)
    have I1 : Inv X pins σ (upd H s.heap.objs.size (.tup [x, y])) { s with heap := h'', toks := tk } := I.turnedNew (t' := tk) (ch := zipCells n) all hf (Nat.le_refl _) ok
    refine ⟨.ref s.heap.objs.size, _, I1, rfl, ⟨_, x, y, rfl, I.hok.fresh (Nat.le_refl _), rfl, fun l hl => by rw [I.tuple_inj hl qx]; exact ex, fun l hl => by rw [I.list_inj hl qy]; exact ey⟩, ⟨z1', ?_, ⟨w1, w2, ?_⟩, ?_, ?_⟩, fun c hcm => ?_⟩
    · exact (sb.2 _ (by show (n + 2 : Nat) ≠ n + 4; omega)).trans (keep _ _ (by show (n + 2 : Nat) ≠ n + 4; omega) (by show (n + 2 : Nat) ≠ n + 3; omega) (by show (n + 2 : Nat) ≠ n; omega) (by show (n + 2 : Nat) ≠ n + 1; omega) z2)
    · exact (sb.2 _ (by show (n + 3 : Nat) ≠ n + 4; omega)).trans b2
    · exact st1.1.at fun o q => (sb.2 _ (by show (n : Nat) ≠ n + 4; omega)).trans q
    · exact st2.1.at fun o q => (sb.2 _ (by show (n + 1 : Nat) ≠ n + 4; omega)).trans q
    · have lt : c < s.heap.objs.size := by
        have : c ≤ n + 4 := by
          rcases mem_cells.mp hcm with e | e | e | e | e <;> (rw [e]; show (_ : Nat) ≤ n + 4; omega)
        exact Nat.lt_of_le_of_lt this lz
      rw [upd_ne (Nat.ne_of_lt lt)]
      exact (hf c hcm).1
  done X hP hw hK hc i pins s σ H E I hf st hg := by
    subst hP hw hK
    obtain ⟨z1, z2, ⟨x0, y0, z3⟩, t1, t2⟩ := st
    obtain ⟨xs, ys, qx, qy, l1, l2, hend⟩ := hg
    obtain ⟨us, rv, p1, _⟩ := I.tuple qx
    obtain ⟨vs, rv2, p2, _⟩ := I.list qy
    have D1 := Draws.tuple (prog := X.prog) (w := X.w) (A := X.A.in1) (I.ok.hd hc) n a (Nat.ne_of_lt ha) us.toArray
    have D2 := Draws.list (prog := X.prog) (w := X.w) (A := X.A.in1) (I.ok.hd hc) (n + 1) b (Nat.ne_of_lt (Nat.lt_succ_of_lt hb)) vs.toArray
    have e1 := rv.length
    have e2 := rv2.length
    have s1 : us.toArray.size = us.length := List.size_toArray
    have s2 : vs.toArray.size = vs.length := List.size_toArray
    refine wpAny_pyNext_zipD2_end (sepM ha hb) D1 D2 z1 z2 z3 ⟨t1, p1⟩ ⟨t2, p2.isList⟩ (by omega) (by omega) (by omega) fun h' tk keep => ⟨rfl, I.turnedL (t' := tk) (ch := zipCells n) (fun c o hc' q => ?_) hf⟩
    have hc' := fun z => hc' (mem_cells.mpr z)
    exact keep c o (fun z => hc' (.inl z)) (fun z => hc' (.inr (.inr (.inl z)))) (fun z => hc' (.inr (.inr (.inr (.inl z))))) (fun z => hc' (.inr (.inr (.inr (.inr z))))) q
  self A i s Q E st h := wpAny_pyIter_zip st.1 h
/-- the heap when such a zip is made -/
abbrev mzA (h : Heap) (a : Addr) : Heap := h.push { cls := .type "tuple_iterator", data := .fields #[.ref a, .int 0 0] }
abbrev mzB (h : Heap) (a b : Addr) : Heap := (mzA h a).push { cls := .type "list_iterator", data := .fields #[.ref b, .int 0 0] }
abbrev mzC (h : Heap) (a b : Addr) : Heap := (mzB h a b).push { cls := .type "tuple", data := .seq #[.ref h.objs.size, .ref (mzA h a).objs.size] }
abbrev mzD (h : Heap) (a b : Addr) : Heap := (mzC h a b).push { cls := .type "tuple", data := .seq #[.none, .none] }
abbrev mzE (h : Heap) (a b : Addr) : Heap := (mzD h a b).push { cls := .type "zip", data := .fields #[.none, .bool false, .bool false, .ref (mzB h a b).objs.size, .ref (mzC h a b).objs.size] }
theorem zipM_new (a b : Addr) (xs ys : Array Value) :
    Meets (Builtin.«zip.__new__» ⟨[.type "zip", .ref a, .ref b], []⟩) (fun _ R s => (s.heap.IsTuple a xs ∧ s.heap.IsList b ys) ∧ R (.ok (.ret (.ref (mzD s.heap a b).objs.size))) { s with heap := mzE s.heap a b }) :=
  .of_wp fun prog w A R s h => by
    obtain ⟨hp, g, d, tk, os⟩ := s
    obtain ⟨⟨ha, hb⟩, h⟩ := h
    have sub := sub_zip
    have k1 : Heap.IsTuple (Shared.heap ⟨hp, g, d, tk, os⟩) a xs := ha
    have k2 : Heap.IsList (Shared.heap ⟨mzA hp a, g, d, tk, os⟩) b ys := Heap.IsList.push hb _
    wp_walk using wpAny_pyIter_tuple k1, wpAny_pyIter_list k2
    exact ⟨_, rfl, h⟩
theorem call_zipM {prog : Program} {w : World} {A : Around} {E : Value → Shared → Prop} {s : Shared} {a b : Addr} {xs ys : Array Value} {Q : Value → Shared → Prop} (ha : s.heap.IsTuple a xs) (hb : s.heap.IsList b ys)
    (h : ∀ h', ZipM s.heap.objs.size a b 0 h' → h'.objs.size = s.heap.objs.size + 5 → (∀ c o, s.heap.get? c = some o → h'.get? c = some o) → Q (.ref (s.heap.objs.size + 4)) { s with heap := h' }) :
    wpAny (model prog w) A (call (.type "zip") [.ref a, .ref b]) Q E s := by
  refine callType_new F.called_zip (by decide) (F.typeCall_zip_2 _ _) (F.newCall_zip_2 _ _) (fun obj => F.args_object_init_3 obj _ _) F.entry_zip_new (zipM_new a b xs ys) ⟨⟨ha, hb⟩, ?_⟩
  have nA : (mzA s.heap a).objs.size = s.heap.objs.size + 1 := Heap.size_push ..
  have nB : (mzB s.heap a b).objs.size = s.heap.objs.size + 2 := by rw [Heap.size_push, nA]
  have nC : (mzC s.heap a b).objs.size = s.heap.objs.size + 3 := by rw [Heap.size_push, nB]
  have nD : (mzD s.heap a b).objs.size = s.heap.objs.size + 4 := by rw [Heap.size_push, nC]
  have nE : (mzE s.heap a b).objs.size = s.heap.objs.size + 5 := by rw [Heap.size_push, nD]
  have gE : (mzE s.heap a b).get? (mzD s.heap a b).objs.size = some _ := Heap.get?_push_size _ rfl
  have gD : (mzE s.heap a b).get? (mzC s.heap a b).objs.size = some _ := Heap.get?_push_of_some _ (Heap.get?_push_size _ rfl)
  have gC : (mzE s.heap a b).get? (mzB s.heap a b).objs.size = some _ := Heap.get?_push_of_some _ (Heap.get?_push_of_some _ (Heap.get?_push_size _ rfl))
  have gB : (mzE s.heap a b).get? (mzA s.heap a).objs.size = some _ := Heap.get?_push_of_some _ (Heap.get?_push_of_some _ (Heap.get?_push_of_some _ (Heap.get?_push_size _ rfl)))
  have gA : (mzE s.heap a b).get? s.heap.objs.size = some _ := Heap.get?_push_of_some _ (Heap.get?_push_of_some _ (Heap.get?_push_of_some _ (Heap.get?_push_of_some _ (Heap.get?_push_size _ rfl))))
  rw [nB, nC, nD] at gE
  rw [nC] at gD
  rw [nA, nB] at gC
  rw [nA] at gB
  rw [nD]
  show _ ∧ _
  refine ⟨⟨_, gE, rfl⟩, h (mzE s.heap a b) ⟨gE, gC, ⟨.none, .none, gD⟩, ⟨_, gA, rfl, rfl⟩, ⟨_, gB, rfl, rfl⟩⟩ nE fun c o e => ?_⟩
  exact Heap.get?_push_of_some _ (Heap.get?_push_of_some _ (Heap.get?_push_of_some _ (Heap.get?_push_of_some _ (Heap.get?_push_of_some _ e))))
def iZipM (K : PySem.W.Frag) (ta : TA) : TI := fun σ H R => ta σ H fun vs H1 => ∃ a b xs ys, vs = [.ref a, .ref b] ∧ SqT K H1 a xs ∧ SqL K H1 b ys ∧ R (ItzM K a b) H1
theorem pi_zipM {X : Cx} {e e2 : Expr} {ta : TA} {p pos tpos : Pos} {elts : List Expr} {kk : Nat} (hg : Gl X "zip") (hm : X.mg "zip" = none) (ha : PA X [e, e2] ta)
    (hs : starEach [e, e2] X.env = (false, eval e X.env) :: starEach [e2] X.env := by rfl) (hpl : (backTo pos (starEach [e2] X.env)).any (·.1) = false := by rfl) :
    PI X (.Tuple elts kk tpos) (.Call (.Name "zip" p) [e, e2] [] pos) (iZipM X.K ta) := by
  constructor
  intro pins s σ H R I h
  refine Call_ (ld_blt I hg hm PyProof.Rows.boot_zip (PyProof.Rows.callWith_type1 (thn (ha.run pos pins s σ H _ I h) fun us s1 z => ?_) hs hpl))
  obtain ⟨vs, H1, I1, r1, a, b, xs, ys, rfl, qx, qy, q⟩ := z
  obtain ⟨v1, v2, rfl, r, r'⟩ := vals2 r1
  cases r
  cases r'
  obtain ⟨us, rv, p1, _⟩ := I1.tuple qx
  obtain ⟨ws, rv2, p2, _⟩ := I1.list qy
  obtain ⟨o1, ho1, _⟩ := id p1
  have lb : b < s1.heap.objs.size := p2.lt
  refine call_zipM (show s1.heap.IsTuple a us.toArray from p1) p2.isList fun h' st n5 keep => wpAny_pyIter_zip st.1 ?_
  refine ⟨_, zipCells s1.heap.objs.size, _, _, H1, rfl, I1.kept (t' := s1.toks) keep, turn_zipM (Heap.lt_size ho1) lb, st, fun c hc => ?_, q⟩
  have le : s1.heap.objs.size ≤ c := by
    rcases mem_cells.mp hc with e | e | e | e | e <;> (rw [e]; first | exact Nat.le_refl _ | exact Nat.le_add_right _ _)
  exact I1.fpOk le (I1.hok.fresh le)
theorem walk_zipM {K : PySem.W.Frag} {a b : Addr} {xs ys : List V} (hl : xs.length = ys.length) : Walk (ItzM K a b) xs.length (fun H => SqT K H a xs ∧ SqL K H b ys) (YPair (fun i => xs[i]?) (fun i => ys[i]?)) := by
  refine ⟨fun i _ hi q => ⟨xs, ys, xs[i], ys[i]'(by omega), q.1, q.2, by simp [hi], by simp⟩, fun _ q => ⟨xs, ys, q.1, q.2, Nat.le_refl _, by omega, .inl rfl⟩, fun i H v H' _ q y => ?_⟩
  obtain ⟨T, x, z, h1, h2, h3, h4, h5⟩ := y
  exact ⟨T, x, z, h1, h2, h3, h4 xs q.1, h5 ys q.2⟩
theorem walk_zipT {K : PySem.W.Frag} {a b : Addr} {xs ys : List V} (hl : xs.length = ys.length) : Walk (ItzT K a b) xs.length (fun H => SqT K H a xs ∧ SqT K H b ys) (YPair (fun i => xs[i]?) (fun i => ys[i]?)) := by
  refine ⟨fun i _ hi q => ⟨xs, ys, xs[i], ys[i]'(by omega), q.1, q.2, by simp [hi], by simp⟩, fun _ q => ⟨xs, ys, q.1, q.2, .inl (Nat.le_refl _)⟩, fun i H v H' _ q y => ?_⟩
  obtain ⟨T, x, z, h1, h2, h3, h4, h5⟩ := y
  exact ⟨T, x, z, h1, h2, h3, h4 xs q.1, h5 ys q.2⟩
/-- zip of a tuple and of a list or a tuple -/
def iZipTX (K : PySem.W.Frag) (ta : TA) : TI := fun σ H R => iZipM K ta σ H R ∨ iZipA K ta σ H R
theorem pi_zipTX {X : Cx} {K : PySem.W.Frag} {e e2 : Expr} {ta : TA} {p pos tpos : Pos} {elts : List Expr} {kk : Nat} (hg : Gl X "zip") (hm : X.mg "zip" = none) (ha : PA X [e, e2] ta)
    (hs : starEach [e, e2] X.env = (false, eval e X.env) :: starEach [e2] X.env := by rfl) (hpl : (backTo pos (starEach [e2] X.env)).any (·.1) = false := by rfl) (hK : X.K = K := by rfl) :
    PI X (.Tuple elts kk tpos) (.Call (.Name "zip" p) [e, e2] [] pos) (iZipTX K ta) := by
  subst hK
  constructor
  intro pins s σ H R I h
  rcases h with h | h
  · exact (pi_zipM hg hm ha hs hpl).run pins s σ H R I h
  · exact (pi_zipA hg hm ha hs hpl).run pins s σ H R I h
end KX

namespace KX
open PySem PySem.Spec PyProof.Rows L2
/-! ### ranges as values -/
/-- a range object from 0 on -/
def rRng1 : List V → Hp → VK → Prop := fun vs H Q => ∃ j : Int, vs = [.int j] ∧ NewO H (.rng 0 j) Q
theorem cr_rng1 {X : Cx} : CallR X (.type "range") rRng1 := fun pins s σ H vs us Q I r h => by
  obtain ⟨j, rfl, q⟩ := h
  obtain ⟨u, rfl, t, rfl⟩ := vals1 r
  have hn : H s.heap.objs.size = none := I.hok.fresh (Nat.le_refl _)
  exact call_range_1 ⟨.ref s.heap.objs.size, upd H s.heap.objs.size (.rng 0 j), I.laid (t' := s.toks + 2) (fun b o e => Heap.get?_push_of_some _ e) (Nat.le_refl _) ⟨_, _, _, Heap.get?_push_size _ rfl⟩, rfl, q _ _ hn (Same.fresh hn) upd_same⟩
def iRngO (te : TE) : TI := fun σ H R => te σ H fun x H1 => ∃ (a : Addr) (lo hi : Int), x = .ref a ∧ H1 a = some (.rng lo hi) ∧ (-(2 ^ 62) ≤ lo ∧ lo < 2 ^ 62 ∧ -(2 ^ 62) ≤ hi ∧ hi < 2 ^ 62) ∧ R (Itr lo (hi - lo).toNat) H1
theorem pi_rngO {X : Cx} {tg e : Expr} {te : TE} (he : PE X e te) : PI X tg e (iRngO te) := by
  constructor
  intro pins s σ H R I h
  refine thn (he.run pins s σ H _ I h) fun v s1 z => ?_
  obtain ⟨x, H1, I1, r1, a, lo, hi, rfl, ha, ⟨b1, b2, b3, b4⟩, q⟩ := z
  cases r1
  obtain ⟨t, u, w, ho⟩ := I1.hok a _ ha
  refine wpAny_pyIter_range (show IsRange _ _ _ _ _ _ _ _ from ho) (small_one b1 b2 b3 b4) ?_
  refine pi_one (tk := s1.toks) I1 _ (turn_range _ lo (hi - lo).toNat) ?_ q
  have e1 : lo + ((0 : Nat) : Int) * 1 = lo := by omega
  have e2 : (((hi - lo).toNat : Nat) : Int) - ((0 : Nat) : Int) = Builtin.Range.rangeSize lo hi 1 := by
    rw [rangeSize_one]
    split <;> omega
  show IsRangeIter _ _ (lo + ((0 : Nat) : Int) * 1) _ 1
  rw [e1, e2]
  exact Heap.get?_push_size _ rfl
end KX

namespace KX
open PySem PySem.Spec PyProof.Rows L2
/-! ### comprehensions of four clauses -/
/-- the rest of a turn behind the tests, in the manner of a continuation -/
def actEmit (elt : Expr) (acc : Value) (env : Env) : Sem Fin → Sem Fin := fun kk => do
  (do let _ ← call (.builtin "list.append") [acc, ← eval elt env] : Sem Unit)
  kk
def actNext (c : Expr) (k : Nat) (src : Expr) (acc : Value) (env : Env) : Sem Fin → Sem Fin := fun kk => do
  let x ← eval src env
  standAt src.pos
  let y ← foldedSetIterable src env x
  let _ ← runOwn (.compStart c k (← holding [y] (pyIter y)) acc env) env
  kk
def turnBy (tg : Expr) (ip : Pos) (ifs : List Expr) (act : Sem Fin → Sem Fin) (c : Expr) (k : Nat) (it acc : Value) (env : Env) : Sem Fin := do
  standAt ip
  match ← pyNext it with
  | none => pure (.done .next)
  | some v =>
    letOwnedTupleGo tg it v
    assign tg env v
    let fine ← forIn ifs true fun c r => if r = true then do let ok ← isTrue c env (eval c env); pure (ForInStep.yield ok) else pure (ForInStep.yield r)
    if fine = true then act (again (.compLoop c k it acc env)) else again (.compLoop c k it acc env)
section
variable {elt t0 i0 t1 i1 t2 i2 t3 i3 : Expr} {f0 f1 f2 f3 : List Expr} {scope : Scope} {pos : Pos} {it acc : Value} {env : Env}
abbrev lc4 (elt t0 i0 t1 i1 t2 i2 t3 i3 : Expr) (f0 f1 f2 f3 : List Expr) (scope : Scope) (pos : Pos) : Expr := .ListComp elt [⟨t0, i0, f0, 0⟩, ⟨t1, i1, f1, 0⟩, ⟨t2, i2, f2, 0⟩, ⟨t3, i3, f3, 0⟩] scope pos
theorem turn4_0 : compTurn (lc4 elt t0 i0 t1 i1 t2 i2 t3 i3 f0 f1 f2 f3 scope pos) 0 it acc env = turnBy t0 i0.pos f0 (actNext (lc4 elt t0 i0 t1 i1 t2 i2 t3 i3 f0 f1 f2 f3 scope pos) 1 i1 acc env) (lc4 elt t0 i0 t1 i1 t2 i2 t3 i3 f0 f1 f2 f3 scope pos) 0 it acc env := by rfl
theorem turn4_1 : compTurn (lc4 elt t0 i0 t1 i1 t2 i2 t3 i3 f0 f1 f2 f3 scope pos) 1 it acc env = turnBy t1 i1.pos f1 (actNext (lc4 elt t0 i0 t1 i1 t2 i2 t3 i3 f0 f1 f2 f3 scope pos) 2 i2 acc env) (lc4 elt t0 i0 t1 i1 t2 i2 t3 i3 f0 f1 f2 f3 scope pos) 1 it acc env := by rfl
theorem turn4_2 : compTurn (lc4 elt t0 i0 t1 i1 t2 i2 t3 i3 f0 f1 f2 f3 scope pos) 2 it acc env = turnBy t2 i2.pos f2 (actNext (lc4 elt t0 i0 t1 i1 t2 i2 t3 i3 f0 f1 f2 f3 scope pos) 3 i3 acc env) (lc4 elt t0 i0 t1 i1 t2 i2 t3 i3 f0 f1 f2 f3 scope pos) 2 it acc env := by rfl
theorem turn4_3 : compTurn (lc4 elt t0 i0 t1 i1 t2 i2 t3 i3 f0 f1 f2 f3 scope pos) 3 it acc env = turnBy t3 i3.pos f3 (actEmit elt acc env) (lc4 elt t0 i0 t1 i1 t2 i2 t3 i3 f0 f1 f2 f3 scope pos) 3 it acc env := by rfl
end
section
variable {prog : Program} {w : World} {A : Around} {R : Result → Shared → Prop} {s : Shared} {elt tg src : Expr} {gs : List Comprehension} {scope : Scope} {pos : Pos} {ip : Pos} {ifs : List Expr} {act : Sem Fin → Sem Fin} {k : Nat} {it acc : Value} {env : Env}
theorem loop_by (heq : compTurn (.ListComp elt gs scope pos) k it acc env = turnBy tg ip ifs act (.ListComp elt gs scope pos) k it acc env) (J : Nat → Shared → Prop)
    (turn : ∀ n s, J n s → wpAny (model prog w) A (pyNext it) (fun r s1 => match r with
      | none => R (.ok .next) s1
      | some v => wpAny (model prog w) A (letOwnedTupleGo tg it v) (fun _ s2 => wpAny (model prog w) A (assign tg env v) (fun _ s3 =>
          wpAny (model prog w) A (forIn ifs true fun c r => if r = true then do let ok ← isTrue c env (eval c env); pure (ForInStep.yield ok) else pure (ForInStep.yield r)) (fun fine s4 =>
            if fine = true then ∀ (kk : Sem Fin) (Q : Fin → Shared → Prop) (E : Value → Shared → Prop), (∀ s', (∃ m, m < n ∧ J m s') → wpAny (model prog w) A kk Q E s') → wpAny (model prog w) A (act kk) Q E s4
            else ∃ m, m < n ∧ J m s4) (fun _ _ => False) s3) (fun _ _ => False) s2) (fun _ _ => False) s1) (fun _ _ => False) s) (n : Nat) (h : J n s) :
    codeAny (model prog w) A (.compLoop (.ListComp elt gs scope pos) k it acc env) R s := by
  refine codeAny_loop rfl J (fun n s hI => ?_) n h
  show wpAny _ A ((compTurn (.ListComp elt gs scope pos) k it acc env).onRaise (fun x => do noteFrame x env; theTreesLotGoes x)) _ _ s
  refine wpAny_noted ?_
  rw [heq]
  unfold turnBy
  refine wpAny_bind (wpAny_standAt (wpAny_bind (thnF (turn n s hI) fun r s1 h1 => ?_)))
  cases r with
  | none => exact wpAny_pure h1
  | some v =>
    refine wpAny_bind (thnF h1 fun _ s2 h2 => wpAny_bind (thnF h2 fun _ s3 h3 => wpAny_bind (thnF h3 fun fine s4 h4 => ?_)))
    cases fine with
    | false =>
      have h4 : ∃ m, m < n ∧ J m s4 := by simpa using h4
      exact wpAny_pure ⟨rfl, h4⟩
    | true =>
      exact (show ∀ (kk : Sem Fin) (Q : Fin → Shared → Prop) (E : Value → Shared → Prop), (∀ s', (∃ m, m < n ∧ J m s') → wpAny (model prog w) A kk Q E s') → wpAny (model prog w) A (act kk) Q E s4 by simpa using h4) _ _ _ fun s' hs' => wpAny_pure ⟨rfl, hs'⟩
theorem start_by {g : Comprehension} (hcl : (clausesOf (.ListComp elt gs scope pos))[k]? = some g) (ha : g.is_async = 0) (h0 : codeAny (model prog w) A (.compLoop (.ListComp elt gs scope pos) k it acc env) R s)
    (h : wpAny (model prog w) A (pyIter it) (fun it' s' => codeAny (model prog w) A (.compLoop (.ListComp elt gs scope pos) k it' acc env) R s') (notedBy (model prog w) A env fun x s' => R (.error x) s') s) :
    codeAny (model prog w) A (.compStart (.ListComp elt gs scope pos) k it acc env) R s := by
  refine codeAny_of_tree ?_
  show wpAny _ _ ((compStart (.ListComp elt gs scope pos) k it acc env).onRaise (fun x => do noteFrame x env; standAt theWindowsPlace)) _ _ s
  refine wpAny_notedAt ?_
  unfold compStart
  rw [hcl]
  have e : (Option.elim (some g) false (·.is_async != 0)) = false := by
    show (g.is_async != 0) = false
    rw [ha]; rfl
  rw [e]
  show wpAny _ _ (ask >>= _) _ _ s
  refine wpAny_bind (wpAny_askSetting (wpAny_ite ?_))
  split
  · first
      | exact wpAny_pure ⟨rfl, h0⟩
      | exact wpAny_bind (wpAny_pure (wpAny_pure ⟨rfl, h0⟩))
  · refine wpAny_bind (wpAny_rule ?_)
    show wpAny _ _ (standAt g.iter.pos >>= _) _ _ s
    exact wpAny_bind (wpAny_standAt (wpAny_bind (wpAny_mono h (fun it' s' h' => wpAny_pure ⟨rfl, h'⟩) fun _ _ x => x)))
end
/-- the slots that a turn may have set are forgotten behind it -/
structure ActOk (B : Cx) (act : Sem Fin → Sem Fin) (vs : List Nat) (body : (Hp → Prop) → L2.St → Hp → Prop) : Prop where
  run : ∀ (pins : List (Addr × Obj)) (s : Shared) (σ : L2.St) (H : Hp) (Nx : Hp → Prop) (kk : Sem Fin) (Q : Fin → Shared → Prop) (E : Value → Shared → Prop), Inv B pins σ H s → body Nx σ H →
    (∀ s' H', Inv B pins (wipe σ vs) H' s' → Nx H' → wpAny (model B.prog B.w) B.A kk Q E s') → wpAny (model B.prog B.w) B.A (act kk) Q E s
def bEmit (te : TE) (D : Addr) : (Hp → Prop) → L2.St → Hp → Prop := fun Nx σ H => te σ H fun y H4 => ∃ acc, H4 D = some (.lst acc) ∧ acc.length < sizeLine ∧ Nx (upd H4 D (.lst (acc ++ [y])))
/-- one more clause -/
def bCl (wi : TI) (g : TG) (tt : TT) (vs : List Nat) (body : (Hp → Prop) → L2.St → Hp → Prop) : (Hp → Prop) → L2.St → Hp → Prop := fun Nx σ H => wi σ H fun J H1 => ∃ W : Nat → Nat → Hp → Prop, (∃ m, W 0 m H1) ∧ ∀ j m H, W j m H →
  (J.stop j H ∧ Nx H) ∨ (J.go j H ∧ ∃ N : Hp → Prop, (∀ H', N H' → ∃ m', m' < m ∧ W (j + 1) m' H') ∧ ∀ x H', J.yld j H x H' → g x (wipe σ vs) H' fun σ2 H2 => wipe σ2 vs = wipe σ vs ∧ tt σ2 H2 fun b H3 => if b = true then body N σ2 H3 else N H3)
theorem act_emit {B : Cx} {elt : Expr} {te : TE} {D : Addr} (hx : B.xe = fun _ _ => False) (he : PE B elt te) : ActOk B (actEmit elt (.ref D) B.env) [] (bEmit te D) := by
  refine ⟨fun pins s σ H Nx kk Q E I h q => ?_⟩
  have r := he.run pins s σ H _ I h
  rw [hx] at r
  unfold actEmit
  refine wpAny_bind (wpAny_bind (thnF r fun z s1 ⟨y, H1, I1, r1, acc, hD, hz, nx⟩ => wpAny_bind (app_ok I1 hD hz r1 fun s2 I2 => ?_)))
  exact wpAny_pure (q s2 _ I2 nx)
theorem wipe_sub {σ τ : L2.St} {vs ws : List Nat} (hs : ∀ i ∈ ws, i ∈ vs) (e : wipe τ vs = wipe σ vs) : (wipe σ vs).length = (wipe τ ws).length ∧ ∀ (j : Nat) v, (wipe σ vs)[j]? = some (some v) → (wipe τ ws)[j]? = some (some v) := by
  refine ⟨by rw [← e, wipe_length, wipe_length], fun j v z => ?_⟩
  rw [← e] at z
  obtain ⟨z1, z2⟩ := wipe_some z
  rw [wipe_out fun m => z2 (hs j m)]
  exact z1
theorem act_next {B : Cx} {elt tg src : Expr} {gs : List Comprehension} {scope : Scope} {pos : Pos} {ifs : List Expr} {k : Nat} {D : Addr} {act : Sem Fin → Sem Fin} {vs ws : List Nat} {body : (Hp → Prop) → L2.St → Hp → Prop} {wi : TI} {g : TG} {tt : TT} (hx : B.xe = fun _ _ => False) (hc : B.calm = true)
    (hcl : (clausesOf (.ListComp elt gs scope pos))[k]? = some ⟨tg, src, ifs, 0⟩) (heq : ∀ it, compTurn (.ListComp elt gs scope pos) k it (.ref D) B.env = turnBy tg src.pos ifs act (.ListComp elt gs scope pos) k it (.ref D) B.env) (hs : ∀ x, foldedSetIterable src B.env x = pure x) (sub : ∀ i ∈ ws, i ∈ vs)
    (hi : PI B tg src wi) (hg : PG B tg g) (ht : PTs B ifs tt) (ha : ActOk B act ws body) : ActOk B (actNext (.ListComp elt gs scope pos) k src (.ref D) B.env) vs (bCl wi g tt vs body) := by
  refine ⟨fun pins s σ H Nx kk Q E I h q => ?_⟩
  have r := hi.run pins s σ H _ I h
  rw [hx] at r
  unfold actNext
  refine wpAny_bind (thnF r fun xv s1 h1 => wpAny_bind (wpAny_standAt (wpAny_bind (wpAny_of_eq (hs xv) (wpAny_bind (wpAny_holding (thnF h1 fun itv s2 h2 => ?_)))))))
  obtain ⟨it, fp, tn, J, H2, e, I2, T, st2, f2, W, ⟨m0, w0⟩, turn⟩ := h2
  subst e
  refine wpAny_bind (wpAny_runOwn ?_)
  rw [Around.mark_none]
  have stat : ∀ {H' : Hp}, (∀ b ∈ fp, H' b = none) → ∀ b ∈ fp, FpOk B pins H' b := fun n b hb => ⟨n b hb, (f2 b hb).2⟩
  have loop : codeAny (model B.prog B.w) B.A (.compLoop (.ListComp elt gs scope pos) k (.ref it) (.ref D) B.env) (fun r s' => match r with
      | .ok _ => ∃ H', Inv B pins (wipe σ vs) H' s' ∧ Nx H'
      | .error _ => False) s2 := by
    refine loop_by (heq _) (fun n s' => ∃ j H', Inv B pins (wipe σ vs) H' s' ∧ tn j s'.heap ∧ (∀ b ∈ fp, H' b = none) ∧ W j n H') ?_ m0 ⟨0, H2, I2.weak (wipe_length _ _) (fun j v e => (wipe_some e).1), st2, fun b hb => (f2 b hb).1, w0⟩
    rintro n s3 ⟨j, H3, I3, st3, n3, w3⟩
    rcases turn j n H3 w3 with ⟨stop, nx⟩ | ⟨go, N, hN, step⟩
    · refine thnF (T.done B rfl rfl rfl hc j _ s3 _ H3 (fun _ _ => False) I3 (stat n3) st3 stop) fun r s4 ⟨hr, I4⟩ => ?_
      subst hr
      exact ⟨H3, I4, nx⟩
    · refine thnF (T.item B rfl rfl rfl hc j _ s3 _ H3 (fun _ _ => False) I3 (stat n3) st3 go) fun r s4 ⟨u, hr, h4⟩ => ?_
      subst hr
      refine thnF h4 fun _ s5 ⟨x, H5, I5, r5, y5, st5, n5⟩ => ?_
      have I5' := I5.pinned (stat n5) (T.obj _ _ st5)
      have rg := hg.run _ s5 _ H5 x u _ I5' r5 (step x H5 y5)
      rw [hx] at rg
      refine thnF rg fun _ s6 ⟨σ6, H6, I6, hw6, q6⟩ => ?_
      have rt := ht.run _ s6 σ6 H6 _ I6 q6
      rw [hx] at rt
      refine thnF rt fun b s7 ⟨H7, I7, q7⟩ => ?_
      have fin : ∀ {τ : L2.St} {s' : Shared} {H' : Hp}, Inv B (pins ++ pinsAt fp s5.heap) τ H' s' → (wipe σ vs).length = τ.length → (∀ (j : Nat) v, (wipe σ vs)[j]? = some (some v) → τ[j]? = some (some v)) → N H' →
          ∃ m, m < n ∧ ∃ j H', Inv B pins (wipe σ vs) H' s' ∧ tn j s'.heap ∧ (∀ b ∈ fp, H' b = none) ∧ W j m H' := fun {τ s' H'} I' hl hk nx => by
        obtain ⟨m', hm, w'⟩ := hN H' nx
        have pin' : ∀ b ∈ fp, ∀ o, s5.heap.get? b = some o → s'.heap.get? b = some o ∧ H' b = none := fun b hb o e =>
          let z := I'.pin (b, o) (List.mem_append_right _ (List.mem_append_right _ (mem_pinsAt hb e)))
          ⟨z.1, z.2.1⟩
        refine ⟨m', hm, j + 1, H', I'.unpinned.weak hl hk, T.keep _ _ _ st5 fun b hb o e => (pin' b hb o e).1, fun b hb => ?_, w'⟩
        obtain ⟨o, e, _⟩ := T.obj _ _ st5 b hb
        exact (pin' b hb o e).2
      cases b with
      | false =>
        simp only [Bool.false_eq_true, if_false] at q7 ⊢
        exact fin I7 (by rw [← hw6, wipe_length]) (fun j v e => by rw [← hw6] at e; exact (wipe_some e).1) q7
      | true =>
        simp only [if_true] at q7 ⊢
        intro kk' Q' E' hk'
        obtain ⟨hl, hk⟩ := wipe_sub sub hw6
        exact ha.run _ s7 σ6 H7 N kk' Q' E' I7 q7 fun s' H' I' nx => hk' s' (fin I' hl hk nx)
  refine codeAny_mono (start_by hcl rfl loop (T.self B.A 0 _ _ _ st2 loop)) fun r s' hr => ?_
  cases r with
  | ok f =>
    obtain ⟨H', I', nx⟩ := hr
    exact q s' H' I' nx
  | error e => exact hr.elim
/-- a comprehension by what its first clause's turns do; D: the new list -/
def tLcB (wi : TI) (g : TG) (tt : TT) (vs : List Nat) (body : Addr → (Hp → Prop) → L2.St → Hp → Prop) : TE := fun σ H Q => wi σ H fun J H1 => ∀ D, H1 D = none → ∃ W : Nat → Nat → Hp → Prop, (∃ m, W 0 m (upd H1 D (.lst []))) ∧ ∀ i m H, W i m H →
  (J.stop i H ∧ Q (.ref D) H) ∨ (J.go i H ∧ ∃ N : Hp → Prop, (∀ H', N H' → ∃ m', m' < m ∧ W (i + 1) m' H') ∧ ∀ x H', J.yld i H x H' → g x (wipe σ vs) H' fun σ2 H2 => wipe σ2 vs = wipe σ vs ∧ tt σ2 H2 fun b H3 => if b = true then body D N σ2 H3 else N H3)
section
variable {X : Cx}
abbrev bx (X : Cx) (scope : Scope) (s : Shared) (H : Hp) (C : Addr) (cl : List (Str × Addr)) (fp : List Addr) : Cx := X.blk s H scope (compEnvC scope cl C X.env) fp
theorem lcB_core {pins : List (Addr × Obj)} {s : Shared} {σ : L2.St} {H : Hp} {Q : VK} {elt tg src : Expr} {ifs : List Expr} {gs : List Comprehension} {scope : Scope} {pos : Pos} {own : List (Str × Nat)} {ws : List Nat} {pos' : Pos} {wi : TI} {g : TG} {tt : TT} {act : Addr → Env → Sem Fin → Sem Fin} {body : Addr → (Hp → Prop) → L2.St → Hp → Prop}
    {use : Option (Value → Sem Unit)} {Qf : Value → Shared → Prop} (hc : X.calm = true) (hN : X.N.Nodup) (I : Inv X pins σ H s) (heq : ∀ it D env, compTurn (.ListComp elt (⟨tg, src, ifs, 0⟩ :: gs) scope pos) 0 it (.ref D) env = turnBy tg src.pos ifs (act D env) (.ListComp elt (⟨tg, src, ifs, 0⟩ :: gs) scope pos) 0 it (.ref D) env)
    (hs : ∀ x, foldedSetIterable src X.env x = pure x) (ok : BlkOk X.N X.env.scope scope own) (sub : ∀ i ∈ ws, i ∈ own.map (·.2)) (hi : PI X tg src wi)
    (hg : ∀ s H C cl fp, PG (bx X scope s H C cl fp) tg g) (ht : ∀ s H C cl fp, PTs (bx X scope s H C cl fp) ifs tt) (ha : ∀ s H C cl fp D, ActOk (bx X scope s H C cl fp) (act D (compEnvC scope cl C X.env)) ws (body D))
    (h : tLcB wi g tt (own.map (·.2)) body σ H Q)
    (fine : ∀ D C s' m H', Inv X pins σ H' s' → Q (.ref D) H' → s'.heap.Ns C m → FpOk X pins H' C → compPost (model X.prog X.w) X.A X.xe use Qf (.ref D) C (.ok .next) s') :
    wpAny (model X.prog X.w) X.A (comprehension (.ListComp elt (⟨tg, src, ifs, 0⟩ :: gs) scope pos) scope X.env pos' (newList []) false (eval src X.env) use) Qf X.xe s := by
  have cells : ∀ y ∈ scope.names, y.2 = .free → ∃ c, X.env.cells.lookup y.1 = some c := fun y hy e => (ok.free y hy e).elim (fun k => I.ok.has _ (.inl k)) fun k => I.ok.has _ (.inr k)
  refine wpAny_comprehension_free (use := use) rfl hs (closure_ok cells) ok.kind (fun y hy e => by rw [ok.uniq y hy, e]) (thn (hi.run pins s σ H _ I h) fun xv sA hx => thn hx fun itv sB hB => ?_)
  obtain ⟨it, fp, tn, J, HB, rfl, IB, T, stB, fB, q⟩ := hB
  refine wpAny_newObj_type (newEnv_comp ?_) (by show 0 ≤ sizeLine; decide)
  obtain ⟨D, hD⟩ : ∃ D, sB.heap.objs.size = D := ⟨_, rfl⟩
  have hDn : HB D = none := IB.hok.fresh (Nat.le_of_eq hD)
  obtain ⟨W, ⟨m0, w0⟩, turn⟩ := q D hDn
  rw [hD]
  obtain ⟨sL, hsL⟩ : ∃ sL : Shared, ({ sB with heap := sB.heap.push { cls := .type "list", data := .seq ([] : List Value).toArray } } : Shared) = sL := ⟨_, rfl⟩
  have hL : sL.heap = sB.heap.push { cls := .type "list", data := .seq ([] : List Value).toArray } := by rw [← hsL]
  have IL : Inv X pins σ (upd HB D (.lst [])) sL := by
    rw [← hsL]
    exact IB.laid (t' := sB.toks) (fun b o e => Heap.get?_push_of_some _ e) (Nat.le_of_eq hD) ⟨Nat.zero_le _, [], 0, .nil, by rw [← hD]; exact Heap.get?_push_size _ rfl⟩
  have lt : ∀ b ∈ fp, b < sB.heap.objs.size := fun b hb => by
    obtain ⟨o, e, _⟩ := T.obj _ _ stB b hb
    exact Heap.lt_size e
  have fL : ∀ b ∈ fp, FpOk X pins (upd HB D (.lst [])) b ∧ b < sL.heap.objs.size := fun b hb => by
    have l := lt b hb
    refine ⟨⟨?_, (fB b hb).2⟩, by rw [hL, Heap.size_push]; exact Nat.lt_succ_of_lt l⟩
    rw [upd_ne (by rw [← hD]; exact Nat.ne_of_lt l)]
    exact (fB b hb).1
  have stL : tn 0 sL.heap := T.keep _ _ _ stB fun b _ o e => by rw [hL]; exact Heap.get?_push_of_some _ e
  have IE := block_start IL ok hN fL
  have pg : PG (X.blk sL (upd HB D (.lst [])) scope (compEnvC scope (cellsFrom (sL.heap.objs.size + 1) scope.names (cloFrom X.env.cells scope.names [])) sL.heap.objs.size X.env) fp) tg g := hg sL (upd HB D (.lst [])) sL.heap.objs.size (cellsFrom (sL.heap.objs.size + 1) scope.names (cloFrom X.env.cells scope.names [])) fp
  have pt : PTs (X.blk sL (upd HB D (.lst [])) scope (compEnvC scope (cellsFrom (sL.heap.objs.size + 1) scope.names (cloFrom X.env.cells scope.names [])) sL.heap.objs.size X.env) fp) ifs tt := ht sL (upd HB D (.lst [])) sL.heap.objs.size (cellsFrom (sL.heap.objs.size + 1) scope.names (cloFrom X.env.cells scope.names [])) fp
  have pa : ActOk (X.blk sL (upd HB D (.lst [])) scope (compEnvC scope (cellsFrom (sL.heap.objs.size + 1) scope.names (cloFrom X.env.cells scope.names [])) sL.heap.objs.size X.env) fp) (act D (compEnvC scope (cellsFrom (sL.heap.objs.size + 1) scope.names (cloFrom X.env.cells scope.names [])) sL.heap.objs.size X.env)) ws (body D) := ha sL (upd HB D (.lst [])) sL.heap.objs.size (cellsFrom (sL.heap.objs.size + 1) scope.names (cloFrom X.env.cells scope.names [])) fp D
  rw [hsL]
  show codeAny _ _ (.compStart (.ListComp elt (⟨tg, src, ifs, 0⟩ :: gs) scope pos) 0 (.ref it) (.ref D) (compEnvC scope (cellsFrom (sL.heap.objs.size + 1) scope.names (cloFrom X.env.cells scope.names [])) sL.heap.objs.size X.env)) (compPost (model X.prog X.w) X.A X.xe use Qf (.ref D) sL.heap.objs.size) { sL with heap := pushCells (sL.heap.push { cls := .type "dict", data := .dict #[] }) scope.names }
  have nfp : ∀ b ∈ fp, (upd HB D (.lst [])) b = none := fun b hb => (fL b hb).1.1
  generalize hce : compEnvC scope (cellsFrom (sL.heap.objs.size + 1) scope.names (cloFrom X.env.cells scope.names [])) sL.heap.objs.size X.env = ce at IE pg pt pa ⊢
  have cL : ce.locals = sL.heap.objs.size := by subst hce; rfl
  generalize hHL : upd HB D (.lst []) = HL at IL IE pg pt pa w0 nfp fL
  generalize hsE : ({ sL with heap := pushCells (sL.heap.push { cls := .type "dict", data := .dict #[] }) scope.names } : Shared) = sE at IE ⊢
  have stE : tn 0 sE.heap := T.keep _ _ _ stL fun b _ o e => by rw [← hsE]; exact pushCells_keeps _ _ _ _ (Heap.get?_push_of_some _ e)
  have stat : ∀ {σ' : L2.St} {H' : Hp} {s' : Shared}, Inv (X.blk sL HL scope ce fp) [] σ' H' s' → (∀ b ∈ fp, H' b = none) → ∀ b ∈ fp, FpOk (X.blk sL HL scope ce fp) [] H' b := fun {σ' H' s'} I' n b hb =>
    ⟨n b hb, (I'.ok.exf b hb).1, I'.ok.exfs b hb, .inl hb, fun x c e => (I'.ok.exf b hb).2 x c e, fun p hp => absurd (show p ∈ ([] : List (Addr × Obj)) ++ [] from hp) (by simp)⟩
  have loop : codeAny (model X.prog X.w) X.A (.compLoop (.ListComp elt (⟨tg, src, ifs, 0⟩ :: gs) scope pos) 0 (.ref it) (.ref D) ce) (compPost (model X.prog X.w) X.A X.xe use Qf (.ref D) sL.heap.objs.size) sE := by
    refine loop_by (heq _ _ _) (fun n s' => ∃ i H', Inv (X.blk sL HL scope ce fp) [] (wipe σ (own.map (·.2))) H' s' ∧ tn i s'.heap ∧ (∀ b ∈ fp, H' b = none) ∧ W i n H') ?_ m0 ⟨0, HL, IE, stE, nfp, w0⟩
    rintro n s5 ⟨i, H5, I5, st5, n5, w5⟩
    rcases turn i n H5 w5 with ⟨stop, qq⟩ | ⟨go, N, hN', step⟩
    · refine thnF (T.done (X.blk sL HL scope ce fp) rfl rfl rfl hc i [] s5 _ H5 (fun _ _ => False) I5 (stat I5 n5) st5 stop) fun r s6 ⟨hr, I6⟩ => ?_
      subst hr
      have I7 : Inv X pins σ H5 s6 := IL.call' (ch := fp) I6.os I6.base I6.hok I6.bare fun b hb => ⟨(fL b hb).1.2.2.2.1, (fL b hb).1.2.1, (fL b hb).1.2.2.2.2.1, (fL b hb).1.2.2.2.2.2⟩
      have nC : H5 sL.heap.objs.size = none := by
        have z : H5 ce.locals = none := I6.free
        rwa [cL] at z
      obtain ⟨m, hn, _⟩ := I6.loc
      have hn : s6.heap.Ns ce.locals m := hn
      rw [cL] at hn
      exact fine D sL.heap.objs.size s6 m H5 I7 qq hn (IL.fpOk (Nat.le_refl _) nC)
    · refine thnF (T.item (X.blk sL HL scope ce fp) rfl rfl rfl hc i [] s5 _ H5 (fun _ _ => False) I5 (stat I5 n5) st5 go) fun r s6 ⟨u, hr, h6⟩ => ?_
      subst hr
      refine thnF h6 fun _ s7 ⟨x, H7, I7, r7, y7, st7, n7⟩ => ?_
      have I7' := I7.pinned (stat I7 n7) (T.obj _ _ st7)
      refine thnF (pg.run _ s7 _ H7 x u _ I7' r7 (step x H7 y7)) fun _ s8 ⟨σ8, H8, I8, hw8, q8⟩ => ?_
      refine thnF (pt.run _ s8 σ8 H8 _ I8 q8) fun b s9 ⟨H9, I9, q9⟩ => ?_
      have turned : ∀ {τ : L2.St} {s' : Shared} {H' : Hp}, Inv (X.blk sL HL scope ce fp) ([] ++ pinsAt fp s7.heap) τ H' s' → (wipe σ (own.map (·.2))).length = τ.length → (∀ (j : Nat) v, (wipe σ (own.map (·.2)))[j]? = some (some v) → τ[j]? = some (some v)) → N H' →
          ∃ m, m < n ∧ ∃ i H', Inv (X.blk sL HL scope ce fp) [] (wipe σ (own.map (·.2))) H' s' ∧ tn i s'.heap ∧ (∀ b ∈ fp, H' b = none) ∧ W i m H' := fun {τ s' H'} I' hl hk nx => by
        obtain ⟨m', hm, w'⟩ := hN' H' nx
        have kept : ∀ b ∈ fp, ∀ o, s7.heap.get? b = some o → s'.heap.get? b = some o ∧ H' b = none := fun b hb o e => by
          have z := I'.pin (b, o) (List.mem_append_right _ (List.mem_append_right _ (mem_pinsAt hb e)))
          exact ⟨z.1, z.2.1⟩
        refine ⟨m', hm, i + 1, H', (I'.unpinned (pins := [])).weak hl hk, T.keep _ _ _ st7 fun b hb o e => (kept b hb o e).1, fun b hb => ?_, w'⟩
        obtain ⟨o, e, _⟩ := T.obj _ _ st7 b hb
        exact (kept b hb o e).2
      cases b with
      | false =>
        simp only [Bool.false_eq_true, if_false] at q9 ⊢
        exact turned I9 (by rw [← hw8, wipe_length]) (fun j v e => by rw [← hw8] at e; exact (wipe_some e).1) q9
      | true =>
        simp only [if_true] at q9 ⊢
        intro kk' Q' E' hk'
        obtain ⟨hl, hk⟩ := wipe_sub sub hw8
        exact pa.run _ s9 σ8 H9 N kk' Q' E' I9 q9 fun s' H' I' nx => hk' s' (turned I' hl hk nx)
  exact start_by (g := ⟨tg, src, ifs, 0⟩) rfl rfl loop (T.self X.A 0 _ _ _ stE loop)
/-- [elt for t0 in i0 .. for t3 in i3]: vs1, vs2, vs3 the names of the clauses from the second, third, fourth on -/
theorem pe_lc4 {elt t0 i0 t1 i1 t2 i2 t3 i3 : Expr} {scope : Scope} {own : List (Str × Nat)} {vs1 vs2 vs3 : List Nat} {pos : Pos} {w0 w1 w2 w3 : TI} {g0 g1 g2 g3 : TG} {te : TE} (hc : X.calm = true) (hN : X.N.Nodup) (hi : PI X t0 i0 w0) (ok : BlkOk X.N X.env.scope scope own)
    (hv1 : ∀ i ∈ vs1, i ∈ own.map (·.2)) (hv2 : ∀ i ∈ vs2, i ∈ vs1) (hv3 : ∀ i ∈ vs3, i ∈ vs2)
    (h0 : ∀ s H C cl fp, PG (bx X scope s H C cl fp) t0 g0)
    (hi1 : ∀ s H C cl fp, PI (bx X scope s H C cl fp) t1 i1 w1) (h1 : ∀ s H C cl fp, PG (bx X scope s H C cl fp) t1 g1)
    (hi2 : ∀ s H C cl fp, PI (bx X scope s H C cl fp) t2 i2 w2) (h2 : ∀ s H C cl fp, PG (bx X scope s H C cl fp) t2 g2)
    (hi3 : ∀ s H C cl fp, PI (bx X scope s H C cl fp) t3 i3 w3) (h3 : ∀ s H C cl fp, PG (bx X scope s H C cl fp) t3 g3)
    (he : ∀ s H C cl fp, PE (bx X scope s H C cl fp) elt te) (hs : ∀ x, foldedSetIterable i0 X.env x = pure x := by intro _; rfl)
    (hs1 : ∀ env x, foldedSetIterable i1 env x = pure x := by intro _ _; rfl) (hs2 : ∀ env x, foldedSetIterable i2 env x = pure x := by intro _ _; rfl) (hs3 : ∀ env x, foldedSetIterable i3 env x = pure x := by intro _ _; rfl) :
    PE X (.ListComp elt [⟨t0, i0, [], 0⟩, ⟨t1, i1, [], 0⟩, ⟨t2, i2, [], 0⟩, ⟨t3, i3, [], 0⟩] scope pos) (tLcB w0 g0 tYes (own.map (·.2)) fun D => bCl w1 g1 tYes vs1 (bCl w2 g2 tYes vs2 (bCl w3 g3 tYes vs3 (bEmit te D)))) := by
  refine ⟨fun pins s σ H Q I h => ?_⟩
  rw [eval_ListComp]
  refine lcB_core (act := fun D env => actNext (lc4 elt t0 i0 t1 i1 t2 i2 t3 i3 [] [] [] [] scope pos) 1 i1 (.ref D) env) hc hN I (fun _ _ _ => turn4_0) hs ok hv1 hi h0 (fun _ _ _ _ _ => pts_nil) (fun s H C cl fp D => ?_) h fun D C s' m H' I' q hn f => ⟨m, hn, fun h'' sb => ?_⟩
  · refine act_next rfl hc rfl (fun it => turn4_1) (hs1 _) hv2 (hi1 s H C cl fp) (h1 s H C cl fp) pts_nil ?_
    refine act_next rfl hc rfl (fun it => turn4_2) (hs2 _) hv3 (hi2 s H C cl fp) (h2 s H C cl fp) pts_nil ?_
    refine act_next rfl hc rfl (fun it => turn4_3) (hs3 _) (fun _ m => absurd m List.not_mem_nil) (hi3 s H C cl fp) (h3 s H C cl fp) pts_nil ?_
    exact act_emit rfl (he s H C cl fp)
  · obtain ⟨f0, f1, f2, f3, f4, f5⟩ := f
    exact ⟨.ref D, H', I'.turned (t' := s'.toks) (fun b o hb e => (sb.2 b hb).trans e) f0 f1 f3 f4 f5, rfl, q⟩
end
end KX

namespace K69
open PySem PySem.Spec PyProof.Rows L2 KX
def top (i : Nat) : Stmt :=
  PySem.Challenge.pw_handalong_k69_weights_that_gains_follow.main.body.getD i (.Pass ⟨0, 0, 0, 0⟩)
theorem iteT' {A B : Prop} {c : Bool} (h : c = true) (a : A) : if c = true then A else B := by rw [if_pos h]; exact a
theorem iteF' {A B : Prop} {c : Bool} (h : c = false) (b : B) : if c = true then A else B := by rw [h]; exact iteF b
abbrev s_is_integer : Stmt := top 1
abbrev N_is_integer : List Str := ["value"]
theorem sc_is_integer : FnScope N_is_integer ["value"] (defScope s_is_integer) := ⟨rfl, rfl, rfl, by decide +kernel, rfl, by decide +kernel, by decide +kernel⟩
abbrev s_is_number : Stmt := top 2
abbrev N_is_number : List Str := ["value"]
theorem sc_is_number : FnScope N_is_number ["value"] (defScope s_is_number) := ⟨rfl, rfl, rfl, by decide +kernel, rfl, by decide +kernel, by decide +kernel⟩
abbrev s_is_below : Stmt := top 3
abbrev N_is_below : List Str := ["value", "limit"]
theorem sc_is_below : FnScope N_is_below ["value", "limit"] (defScope s_is_below) := ⟨rfl, rfl, rfl, by decide +kernel, rfl, by decide +kernel, by decide +kernel⟩
abbrev s_is_tuple_of : Stmt := top 4
abbrev N_is_tuple_of : List Str := ["value", "length"]
theorem sc_is_tuple_of : FnScope N_is_tuple_of ["value", "length"] (defScope s_is_tuple_of) := ⟨rfl, rfl, rfl, by decide +kernel, rfl, by decide +kernel, by decide +kernel⟩
abbrev s_is_told : Stmt := top 10
abbrev N_is_told : List Str := ["value", "word", "length"]
theorem sc_is_told : FnScope N_is_told ["value", "word", "length"] (defScope s_is_told) := ⟨rfl, rfl, rfl, by decide +kernel, rfl, by decide +kernel, by decide +kernel⟩
abbrev s_are_rows : Stmt := top 12
abbrev N_are_rows : List Str := ["modes", "many", "value", "row", "number"]
theorem sc_are_rows : FnScope N_are_rows ["modes", "many", "value"] (defScope s_are_rows) := ⟨rfl, rfl, rfl, by decide +kernel, rfl, by decide +kernel, by decide +kernel⟩
abbrev s_is_even_table : Stmt := top 13
abbrev N_is_even_table : List Str := ["modes", "value", "a", "b"]
theorem sc_is_even_table : FnScope N_is_even_table ["modes", "value"] (defScope s_is_even_table) := ⟨rfl, rfl, rfl, by decide +kernel, rfl, by decide +kernel, by decide +kernel⟩
abbrev s_is_table : Stmt := top 16
abbrev N_is_table : List Str := ["value", "row", "number"]
theorem sc_is_table : FnScope N_is_table ["value"] (defScope s_is_table) := ⟨rfl, rfl, rfl, by decide +kernel, rfl, by decide +kernel, by decide +kernel⟩
abbrev s_check_table : Stmt := top 17
abbrev N_check_table : List Str := ["value"]
theorem sc_check_table : FnScope N_check_table ["value"] (defScope s_check_table) := ⟨rfl, rfl, rfl, by decide +kernel, rfl, by decide +kernel, by decide +kernel⟩
abbrev s_gain : Stmt := top 18
abbrev N_gain : List Str := ["table", "view", "other"]
theorem sc_gain : FnScope N_gain ["table", "view"] (defScope s_gain) := ⟨rfl, rfl, rfl, by decide +kernel, rfl, by decide +kernel, by decide +kernel⟩
abbrev s_lead : Stmt := top 19
abbrev N_lead : List Str := ["table", "view", "mode"]
theorem sc_lead : FnScope N_lead ["table", "view", "mode"] (defScope s_lead) := ⟨rfl, rfl, rfl, by decide +kernel, rfl, by decide +kernel, by decide +kernel⟩
abbrev s_round_sum : Stmt := top 20
abbrev N_round_sum : List Str := ["table", "a", "c", "b", "e", "first"]
theorem sc_round_sum : FnScope N_round_sum ["table", "a", "c", "b", "e"] (defScope s_round_sum) := ⟨rfl, rfl, rfl, by decide +kernel, rfl, by decide +kernel, by decide +kernel⟩
abbrev s_exact_weights : Stmt := top 21
abbrev N_exact_weights : List Str := ["table", "many", "a", "c", "b", "e", "extra", "mode", "row", "number", "more"]
theorem sc_exact_weights : FnScope N_exact_weights ["table"] (defScope s_exact_weights) := ⟨rfl, rfl, rfl, by decide +kernel, rfl, by decide +kernel, by decide +kernel⟩
abbrev s_is_exact : Stmt := top 22
abbrev N_is_exact : List Str := ["table", "value", "many", "rows", "b", "a", "c", "e", "mode"]
theorem sc_is_exact : FnScope N_is_exact ["table", "value"] (defScope s_is_exact) := ⟨rfl, rfl, rfl, by decide +kernel, rfl, by decide +kernel, by decide +kernel⟩
abbrev s_is_moved_alike : Stmt := top 23
abbrev N_is_moved_alike : List Str := ["table", "rows", "b", "c"]
theorem sc_is_moved_alike : FnScope N_is_moved_alike ["table", "rows", "b"] (defScope s_is_moved_alike) := ⟨rfl, rfl, rfl, by decide +kernel, rfl, by decide +kernel, by decide +kernel⟩
abbrev s__law_draw : Stmt := top 25
abbrev N__law_draw : List Str := ["script", "salt", "cells", "blend", "cell"]
theorem sc__law_draw : FnScope N__law_draw ["script", "salt"] (defScope s__law_draw) := ⟨rfl, rfl, rfl, by decide +kernel, rfl, by decide +kernel, by decide +kernel⟩
abbrev s__law_any : Stmt := top 26
abbrev N__law_any : List Str := ["deal", "bound", "rest"]
theorem sc__law_any : FnScope N__law_any ["deal", "bound"] (defScope s__law_any) := ⟨rfl, rfl, rfl, by decide +kernel, rfl, by decide +kernel, by decide +kernel⟩
abbrev s__law_of : Stmt := top 27
abbrev N__law_of : List Str := ["deal", "some"]
theorem sc__law_of : FnScope N__law_of ["deal", "some"] (defScope s__law_of) := ⟨rfl, rfl, rfl, by decide +kernel, rfl, by decide +kernel, by decide +kernel⟩
abbrev s__law_links : Stmt := top 28
abbrev N__law_links : List Str := ["deal", "many", "form", "links", "most", "steps", "one", "step", "other", "met", "site", "link"]
theorem sc__law_links : FnScope N__law_links ["deal", "many"] (defScope s__law_links) := ⟨rfl, rfl, rfl, by decide +kernel, rfl, by decide +kernel, by decide +kernel⟩
abbrev s__law_network : Stmt := top 29
abbrev N__law_network : List Str := ["deal", "kinds", "many", "start", "turn", "modes", "at"]
theorem sc__law_network : FnScope N__law_network ["deal", "kinds", "many"] (defScope s__law_network) := ⟨rfl, rfl, rfl, by decide +kernel, rfl, by decide +kernel, by decide +kernel⟩
abbrev s__law_table : Stmt := top 30
abbrev N__law_table : List Str := ["deal", "kinds", "one", "form", "rows", "more", "other", "number", "row", "mode", "at"]
theorem sc__law_table : FnScope N__law_table ["deal", "kinds"] (defScope s__law_table) := ⟨rfl, rfl, rfl, by decide +kernel, rfl, by decide +kernel, by decide +kernel⟩
abbrev s__law_refused : Stmt := top 31
abbrev N__law_refused : List Str := ["work", "error"]
theorem sc__law_refused : FnScope N__law_refused ["work"] (defScope s__law_refused) := ⟨rfl, rfl, rfl, by decide +kernel, rfl, by decide +kernel, by decide +kernel⟩
abbrev s__law_gains : Stmt := top 32
abbrev N__law_gains : List Str := ["table", "modes", "links", "steps", "found", "site", "to", "near", "one", "other"]
theorem sc__law_gains : FnScope N__law_gains ["table", "modes", "links", "steps"] (defScope s__law_gains) := ⟨rfl, rfl, rfl, by decide +kernel, rfl, by decide +kernel, by decide +kernel⟩
abbrev s__law_around : Stmt := top 33
abbrev N__law_around : List Str := ["table", "four", "a", "c", "b", "e"]
theorem sc__law_around : FnScope N__law_around ["table", "four"] (defScope s__law_around) := ⟨rfl, rfl, rfl, by decide +kernel, rfl, by decide +kernel, by decide +kernel⟩
abbrev s__law_first : Stmt := top 34
abbrev N__law_first : List Str := ["table", "modes", "a", "c", "b", "e", "mode"]
theorem sc__law_first : FnScope N__law_first ["table"] (defScope s__law_first) := ⟨rfl, rfl, rfl, by decide +kernel, rfl, by decide +kernel, by decide +kernel⟩
abbrev s__law_follows : Stmt := top 35
abbrev N__law_follows : List Str := ["table", "rows", "kinds", "row", "a", "b", "one"]
theorem sc__law_follows : FnScope N__law_follows ["table", "rows"] (defScope s__law_follows) := ⟨rfl, rfl, rfl, by decide +kernel, rfl, by decide +kernel, by decide +kernel⟩
abbrev s__law_back : Stmt := top 36
abbrev N__law_back : List Str := ["deal", "kinds", "modes", "steps", "now", "turn", "site", "to", "order", "start"]
theorem sc__law_back : FnScope N__law_back ["deal", "kinds", "modes"] (defScope s__law_back) := ⟨rfl, rfl, rfl, by decide +kernel, rfl, by decide +kernel, by decide +kernel⟩
abbrev s__law_bent_right : Stmt := top 37
abbrev N__law_bent_right : List Str := ["deal", "table", "told", "kinds", "rows", "at", "form", "line", "bent", "four", "row", "one", "place"]
theorem sc__law_bent_right : FnScope N__law_bent_right ["deal", "table", "told"] (defScope s__law_bent_right) := ⟨rfl, rfl, rfl, by decide +kernel, rfl, by decide +kernel, by decide +kernel⟩
abbrev s_law : Stmt := top 38
abbrev N_law : List Str := ["script", "deal", "turn", "kinds", "table", "told", "first", "wrong", "modes", "links", "found", "back", "bad"]
theorem sc_law : FnScope N_law ["script"] (defScope s_law) := ⟨rfl, rfl, rfl, by decide +kernel, rfl, by decide +kernel, by decide +kernel⟩
/-- what the top must have -/
structure TX (K : PySem.W.Frag) (mg : Str → Option Value) where
  f_is_integer : Addr
  d_is_integer : FuncData
  F_is_integer : Fun K "is_integer" "is_integer" s_is_integer f_is_integer d_is_integer
  m_is_integer : mg "is_integer" = some (.ref f_is_integer)
  f_is_number : Addr
  d_is_number : FuncData
  F_is_number : Fun K "is_number" "is_number" s_is_number f_is_number d_is_number
  m_is_number : mg "is_number" = some (.ref f_is_number)
  f_is_below : Addr
  d_is_below : FuncData
  F_is_below : Fun K "is_below" "is_below" s_is_below f_is_below d_is_below
  m_is_below : mg "is_below" = some (.ref f_is_below)
  f_is_tuple_of : Addr
  d_is_tuple_of : FuncData
  F_is_tuple_of : Fun K "is_tuple_of" "is_tuple_of" s_is_tuple_of f_is_tuple_of d_is_tuple_of
  m_is_tuple_of : mg "is_tuple_of" = some (.ref f_is_tuple_of)
  f_is_told : Addr
  d_is_told : FuncData
  F_is_told : Fun K "is_told" "is_told" s_is_told f_is_told d_is_told
  m_is_told : mg "is_told" = some (.ref f_is_told)
  f_are_rows : Addr
  d_are_rows : FuncData
  F_are_rows : Fun K "are_rows" "are_rows" s_are_rows f_are_rows d_are_rows
  m_are_rows : mg "are_rows" = some (.ref f_are_rows)
  f_is_even_table : Addr
  d_is_even_table : FuncData
  F_is_even_table : Fun K "is_even_table" "is_even_table" s_is_even_table f_is_even_table d_is_even_table
  m_is_even_table : mg "is_even_table" = some (.ref f_is_even_table)
  f_is_table : Addr
  d_is_table : FuncData
  F_is_table : Fun K "is_table" "is_table" s_is_table f_is_table d_is_table
  m_is_table : mg "is_table" = some (.ref f_is_table)
  f_check_table : Addr
  d_check_table : FuncData
  F_check_table : Fun K "check_table" "check_table" s_check_table f_check_table d_check_table
  m_check_table : mg "check_table" = some (.ref f_check_table)
  f_gain : Addr
  d_gain : FuncData
  F_gain : Fun K "gain" "gain" s_gain f_gain d_gain
  m_gain : mg "gain" = some (.ref f_gain)
  f_lead : Addr
  d_lead : FuncData
  F_lead : Fun K "lead" "lead" s_lead f_lead d_lead
  m_lead : mg "lead" = some (.ref f_lead)
  f_round_sum : Addr
  d_round_sum : FuncData
  F_round_sum : Fun K "round_sum" "round_sum" s_round_sum f_round_sum d_round_sum
  m_round_sum : mg "round_sum" = some (.ref f_round_sum)
  f_exact_weights : Addr
  d_exact_weights : FuncData
  F_exact_weights : Fun K "exact_weights" "exact_weights" s_exact_weights f_exact_weights d_exact_weights
  m_exact_weights : mg "exact_weights" = some (.ref f_exact_weights)
  f_is_exact : Addr
  d_is_exact : FuncData
  F_is_exact : Fun K "is_exact" "is_exact" s_is_exact f_is_exact d_is_exact
  m_is_exact : mg "is_exact" = some (.ref f_is_exact)
  f_is_moved_alike : Addr
  d_is_moved_alike : FuncData
  F_is_moved_alike : Fun K "is_moved_alike" "is_moved_alike" s_is_moved_alike f_is_moved_alike d_is_moved_alike
  m_is_moved_alike : mg "is_moved_alike" = some (.ref f_is_moved_alike)
  f__law_draw : Addr
  d__law_draw : FuncData
  F__law_draw : Fun K "_law_draw" "_law_draw" s__law_draw f__law_draw d__law_draw
  m__law_draw : mg "_law_draw" = some (.ref f__law_draw)
  f__law_any : Addr
  d__law_any : FuncData
  F__law_any : Fun K "_law_any" "_law_any" s__law_any f__law_any d__law_any
  m__law_any : mg "_law_any" = some (.ref f__law_any)
  f__law_of : Addr
  d__law_of : FuncData
  F__law_of : Fun K "_law_of" "_law_of" s__law_of f__law_of d__law_of
  m__law_of : mg "_law_of" = some (.ref f__law_of)
  f__law_links : Addr
  d__law_links : FuncData
  F__law_links : Fun K "_law_links" "_law_links" s__law_links f__law_links d__law_links
  m__law_links : mg "_law_links" = some (.ref f__law_links)
  f__law_network : Addr
  d__law_network : FuncData
  F__law_network : Fun K "_law_network" "_law_network" s__law_network f__law_network d__law_network
  m__law_network : mg "_law_network" = some (.ref f__law_network)
  f__law_table : Addr
  d__law_table : FuncData
  F__law_table : Fun K "_law_table" "_law_table" s__law_table f__law_table d__law_table
  m__law_table : mg "_law_table" = some (.ref f__law_table)
  f__law_refused : Addr
  d__law_refused : FuncData
  F__law_refused : Fun K "_law_refused" "_law_refused" s__law_refused f__law_refused d__law_refused
  m__law_refused : mg "_law_refused" = some (.ref f__law_refused)
  f__law_gains : Addr
  d__law_gains : FuncData
  F__law_gains : Fun K "_law_gains" "_law_gains" s__law_gains f__law_gains d__law_gains
  m__law_gains : mg "_law_gains" = some (.ref f__law_gains)
  f__law_around : Addr
  d__law_around : FuncData
  F__law_around : Fun K "_law_around" "_law_around" s__law_around f__law_around d__law_around
  m__law_around : mg "_law_around" = some (.ref f__law_around)
  f__law_first : Addr
  d__law_first : FuncData
  F__law_first : Fun K "_law_first" "_law_first" s__law_first f__law_first d__law_first
  m__law_first : mg "_law_first" = some (.ref f__law_first)
  f__law_follows : Addr
  d__law_follows : FuncData
  F__law_follows : Fun K "_law_follows" "_law_follows" s__law_follows f__law_follows d__law_follows
  m__law_follows : mg "_law_follows" = some (.ref f__law_follows)
  f__law_back : Addr
  d__law_back : FuncData
  F__law_back : Fun K "_law_back" "_law_back" s__law_back f__law_back d__law_back
  m__law_back : mg "_law_back" = some (.ref f__law_back)
  f__law_bent_right : Addr
  d__law_bent_right : FuncData
  F__law_bent_right : Fun K "_law_bent_right" "_law_bent_right" s__law_bent_right f__law_bent_right d__law_bent_right
  m__law_bent_right : mg "_law_bent_right" = some (.ref f__law_bent_right)
  f_law : Addr
  d_law : FuncData
  F_law : Fun K "law" "law" s_law f_law d_law
  m_law : mg "law" = some (.ref f_law)
  n_int : mg "int" = none
  n_bool : mg "bool" = none
  n_str : mg "str" = none
  n_abs : mg "abs" = none
  n_len : mg "len" = none
  n_min : mg "min" = none
  n_max : mg "max" = none
  n_sorted : mg "sorted" = none
  n_tuple : mg "tuple" = none
  n_list : mg "list" = none
  n_range : mg "range" = none
  n_repr : mg "repr" = none
  n_isinstance : mg "isinstance" = none
  n_all : mg "all" = none
  n_sum : mg "sum" = none
  n_zip : mg "zip" = none
  t_MOST_MODES : Tok
  m_MOST_MODES : mg "MOST_MODES" = some (.int 4 t_MOST_MODES)
  t_MOST_GAIN : Tok
  m_MOST_GAIN : mg "MOST_GAIN" = some (.int 1000 t_MOST_GAIN)
  c_InvalidScore : Addr
  i_InvalidScore : Addr
  E_InvalidScore : PySem.ErrX.ErrTxt K mg "InvalidScore" "InvalidScore.__init__" c_InvalidScore i_InvalidScore
section
variable {K : PySem.W.Frag} {mg : Str → Option Value} (T : TX K mg)
theorem TX.b_is_integer : Binds K T.d_is_integer ["value"] [] := T.F_is_integer.binds fun _ _ _ _ _ _ us hl => match us, hl with | [_], _ => rfl
theorem TX.b_is_number : Binds K T.d_is_number ["value"] [] := T.F_is_number.binds fun _ _ _ _ _ _ us hl => match us, hl with | [_], _ => rfl
theorem TX.b_is_below : Binds K T.d_is_below ["value", "limit"] [] := T.F_is_below.binds fun _ _ _ _ _ _ us hl => match us, hl with | [_, _], _ => rfl
theorem TX.b_is_tuple_of : Binds K T.d_is_tuple_of ["value", "length"] [] := T.F_is_tuple_of.binds fun _ _ _ _ _ _ us hl => match us, hl with | [_, _], _ => rfl
theorem TX.b_is_told : Binds K T.d_is_told ["value", "word", "length"] [] := T.F_is_told.binds fun _ _ _ _ _ _ us hl => match us, hl with | [_, _, _], _ => rfl
theorem TX.b_are_rows : Binds K T.d_are_rows ["modes", "many", "value"] [] := T.F_are_rows.binds fun _ _ _ _ _ _ us hl => match us, hl with | [_, _, _], _ => rfl
theorem TX.b_is_even_table : Binds K T.d_is_even_table ["modes", "value"] [] := T.F_is_even_table.binds fun _ _ _ _ _ _ us hl => match us, hl with | [_, _], _ => rfl
theorem TX.b_is_table : Binds K T.d_is_table ["value"] [] := T.F_is_table.binds fun _ _ _ _ _ _ us hl => match us, hl with | [_], _ => rfl
theorem TX.b_check_table : Binds K T.d_check_table ["value"] [] := T.F_check_table.binds fun _ _ _ _ _ _ us hl => match us, hl with | [_], _ => rfl
theorem TX.b_gain : Binds K T.d_gain ["table", "view"] [] := T.F_gain.binds fun _ _ _ _ _ _ us hl => match us, hl with | [_, _], _ => rfl
theorem TX.b_lead : Binds K T.d_lead ["table", "view", "mode"] [] := T.F_lead.binds fun _ _ _ _ _ _ us hl => match us, hl with | [_, _, _], _ => rfl
theorem TX.b_round_sum : Binds K T.d_round_sum ["table", "a", "c", "b", "e"] [] := T.F_round_sum.binds fun _ _ _ _ _ _ us hl => match us, hl with | [_, _, _, _, _], _ => rfl
theorem TX.b_exact_weights : Binds K T.d_exact_weights ["table"] [] := T.F_exact_weights.binds fun _ _ _ _ _ _ us hl => match us, hl with | [_], _ => rfl
theorem TX.b_is_exact : Binds K T.d_is_exact ["table", "value"] [] := T.F_is_exact.binds fun _ _ _ _ _ _ us hl => match us, hl with | [_, _], _ => rfl
theorem TX.b_is_moved_alike : Binds K T.d_is_moved_alike ["table", "rows", "b"] [] := T.F_is_moved_alike.binds fun _ _ _ _ _ _ us hl => match us, hl with | [_, _, _], _ => rfl
theorem TX.b__law_draw : Binds K T.d__law_draw ["script", "salt"] [] := T.F__law_draw.binds fun _ _ _ _ _ _ us hl => match us, hl with | [_, _], _ => rfl
theorem TX.b__law_any : Binds K T.d__law_any ["deal", "bound"] [] := T.F__law_any.binds fun _ _ _ _ _ _ us hl => match us, hl with | [_, _], _ => rfl
theorem TX.b__law_of : Binds K T.d__law_of ["deal", "some"] [] := T.F__law_of.binds fun _ _ _ _ _ _ us hl => match us, hl with | [_, _], _ => rfl
theorem TX.b__law_links : Binds K T.d__law_links ["deal", "many"] [] := T.F__law_links.binds fun _ _ _ _ _ _ us hl => match us, hl with | [_, _], _ => rfl
theorem TX.b__law_network : Binds K T.d__law_network ["deal", "kinds", "many"] [] := T.F__law_network.binds fun _ _ _ _ _ _ us hl => match us, hl with | [_, _, _], _ => rfl
theorem TX.b__law_table : Binds K T.d__law_table ["deal", "kinds"] [] := T.F__law_table.binds fun _ _ _ _ _ _ us hl => match us, hl with | [_, _], _ => rfl
theorem TX.b__law_refused : Binds K T.d__law_refused ["work"] [] := T.F__law_refused.binds fun _ _ _ _ _ _ us hl => match us, hl with | [_], _ => rfl
theorem TX.b__law_gains : Binds K T.d__law_gains ["table", "modes", "links", "steps"] [] := T.F__law_gains.binds fun _ _ _ _ _ _ us hl => match us, hl with | [_, _, _, _], _ => rfl
theorem TX.b__law_around : Binds K T.d__law_around ["table", "four"] [] := T.F__law_around.binds fun _ _ _ _ _ _ us hl => match us, hl with | [_, _], _ => rfl
theorem TX.b__law_first : Binds K T.d__law_first ["table"] [] := T.F__law_first.binds fun _ _ _ _ _ _ us hl => match us, hl with | [_], _ => rfl
theorem TX.b__law_follows : Binds K T.d__law_follows ["table", "rows"] [] := T.F__law_follows.binds fun _ _ _ _ _ _ us hl => match us, hl with | [_, _], _ => rfl
theorem TX.b__law_back : Binds K T.d__law_back ["deal", "kinds", "modes"] [] := T.F__law_back.binds fun _ _ _ _ _ _ us hl => match us, hl with | [_, _, _], _ => rfl
theorem TX.b__law_bent_right : Binds K T.d__law_bent_right ["deal", "table", "told"] [] := T.F__law_bent_right.binds fun _ _ _ _ _ _ us hl => match us, hl with | [_, _, _], _ => rfl
theorem TX.b_law : Binds K T.d_law ["script"] [] := T.F_law.binds fun _ _ _ _ _ _ us hl => match us, hl with | [_], _ => rfl
end
/-! ### the deal -/
structure DealAt (H : Hp) (p q : Addr) (ns : List Int) (b : Int) : Prop where
  hp : H p = some (.lst [.ref q, .int b])
  hq : H q = some (.lst (ns.map V.int))
  ne : p ≠ q
  nn : ∀ n ∈ ns, 0 ≤ n
  len : ns.length ≤ 48
  b0 : 0 ≤ b
  b1 : b < 2147483647
def Deal (H : Hp) (p q : Addr) : Prop := ∃ ns b, DealAt H p q ns b
/-- all but the deal's two lists stays -/
def Fix (p q : Addr) (H H' : Hp) : Prop := ∀ a o, a ≠ p → a ≠ q → H a = some o → H' a = some o
theorem Fix.refl (p q : Addr) (H : Hp) : Fix p q H H := fun _ _ _ _ h => h
theorem Fix.trans {p q : Addr} {H H1 H2 : Hp} (a : Fix p q H H1) (b : Fix p q H1 H2) : Fix p q H H2 := fun c o h1 h2 h => b c o h1 h2 (a c o h1 h2 h)
theorem Fix.same {p q : Addr} {H H' : Hp} (s : Same H H') : Fix p q H H' := fun c o _ _ h => s c o h
theorem Fix.new {p q a : Addr} {H : Hp} {o : HO} (n : H a = none) : Fix p q H (upd H a o) := fun c u _ _ h => by
  rw [upd_ne (fun z => by rw [z, n] at h; cases h)]; exact h
theorem Fix.p {p q : Addr} {H : Hp} {o : HO} : Fix p q H (upd H p o) := fun c u h1 _ h => by rw [upd_ne h1]; exact h
theorem Fix.q {p q : Addr} {H : Hp} {o : HO} : Fix p q H (upd H q o) := fun c u _ h2 h => by rw [upd_ne h2]; exact h
theorem DealAt.new {H : Hp} {p q a : Addr} {ns : List Int} {b : Int} {o : HO} (d : DealAt H p q ns b) (n : H a = none) : DealAt (upd H a o) p q ns b :=
  ⟨by rw [upd_ne (fun z => by have := d.hp; rw [z, n] at this; cases this)]; exact d.hp,
   by rw [upd_ne (fun z => by have := d.hq; rw [z, n] at this; cases this)]; exact d.hq, d.ne, d.nn, d.len, d.b0, d.b1⟩
theorem DealAt.toq {H : Hp} {p q : Addr} {ns ms : List Int} {b : Int} (d : DealAt H p q ns b) (hn : ∀ n ∈ ms, 0 ≤ n) (hl : ms.length ≤ 48) :
    DealAt (upd H q (.lst (ms.map V.int))) p q ms b :=
  ⟨by rw [upd_ne d.ne]; exact d.hp, upd_same, d.ne, hn, hl, d.b0, d.b1⟩
theorem DealAt.top {H : Hp} {p q : Addr} {ns : List Int} {b c : Int} (d : DealAt H p q ns b) (h0 : 0 ≤ c) (h1 : c < 2147483647) :
    DealAt (upd H p (.lst [.ref q, .int c])) p q ns c :=
  ⟨upd_same, by rw [upd_ne (Ne.symm d.ne)]; exact d.hq, d.ne, d.nn, d.len, h0, h1⟩
theorem Deal.same {H H' : Hp} {p q : Addr} (d : Deal H p q) (s : Same H H') : Deal H' p q := by
  obtain ⟨ns, b, d⟩ := d
  exact ⟨ns, b, s _ _ d.hp, s _ _ d.hq, d.ne, d.nn, d.len, d.b0, d.b1⟩
def spAny : Sp := fun vs H Q _ => ∃ (p q : Addr) (m : Int), vs = [.ref p, .int m] ∧ Deal H p q ∧ 0 < m ∧ m < 1073741824 ∧
  ∀ H' i, Deal H' p q → Fix p q H H' → 0 ≤ i → i < m → Q (.int i) H'
def spOf (K : PySem.W.Frag) : Sp := fun vs H Q _ => ∃ (p q a : Addr) (xs : List V), vs = [.ref p, .ref a] ∧ Deal H p q ∧ a ≠ p ∧ a ≠ q ∧ H a = some (.lst xs) ∧
  0 < xs.length ∧ xs.length < 1000 ∧ ∀ H' x, x ∈ xs → Deal H' p q → Fix p q H H' → Q x H'
/-! data of a list of ints -/
theorem dpAll_ints (K : PySem.W.Frag) (H : Hp) : ∀ ns : List Int, DpAll K H (ns.map V.int) (ns.map PyData.int)
  | [] => .nil
  | n :: ns => .cons (.int n) (dpAll_ints K H ns)
theorem dp_ints {K : PySem.W.Frag} {H : Hp} {a : Addr} {ns : List Int} (h : H a = some (.lst (ns.map V.int))) : Dp K H (.ref a) (.list (ns.map PyData.int)) :=
  .lst (SqL.of h) (dpAll_ints K H ns)
theorem lay_ints : ∀ ns : List Int, PyData.canLayAll0 (ns.map PyData.int) = true
  | [] => rfl
  | n :: ns => by
    show (PyData.canLay0 (.int n) && PyData.canLayAll0 (ns.map PyData.int)) = true
    rw [lay_ints ns]; rfl
theorem dep_ints : ∀ ns : List Int, PyData.depthAll (ns.map PyData.int) ≤ 1
  | [] => by decide
  | n :: ns => by
    have h := dep_ints ns
    show max (PyData.depth (.int n)) (PyData.depthAll (ns.map PyData.int)) ≤ 1
    have h1 : PyData.depth (.int n) = 0 := rfl
    rw [h1]; omega
theorem sh_ints (ns : List Int) : SeqAt.shaped (.list (ns.map PyData.int)) = true := by
  have h := dep_ints ns
  have h1 : PyData.depth (.list (ns.map PyData.int)) = PyData.depthAll (ns.map PyData.int) + 1 := rfl
  unfold SeqAt.shaped
  have h2 : PyData.canLay0 (.list (ns.map PyData.int)) = PyData.canLayAll0 (ns.map PyData.int) := rfl
  rw [h2, lay_ints, h1, Bool.true_and]
  exact decide_eq_true (by omega)
theorem ne_nil_ints (ns : List Int) : PyData.eqv (.list (ns.map PyData.int)) (.list ([] : List PyData)) = decide (ns = []) := by
  cases ns <;> rfl
section
variable {P : Program} {w : World} {K : PySem.W.Frag} {mg : Str → Option Value} {base : Heap}
theorem ok_any {f : Addr} {fd : FuncData} (F : Fun K "_law_any" "_law_any" s__law_any f fd) (gi : mg "int" = none) : FnOk P w K mg base CX0 1 f fd ["deal", "bound"] spAny := by
  refine F.ok sc__law_any (fun vs H Q E h => ?_) fun cdv A outer s H vs Q E hr h => ⟨_, 
    pss_cons (ps_while PassesOwn.never (PW.pt (pw_and (pt_cmpR (op_neD hr.units) (pe_ix ix_list (pv 0) pe_int (fun _ _ => rfl)) (pe_lst pa_nil) (nomark _))
        (pw_and1 (pt_cmpR op_eq (pe_ix ix_list (pe_ix ix_list (pv 0) pe_int (fun _ _ => rfl)) (pe_un un_neg pe_int) (fun _ _ => rfl)) pe_int (nomark _)))))
      (pss_one (ps_expr (pe_bm0 PySem.F.plainAttrs_list PySem.F.slot_list_pop PySem.F.type_list_pop mt_pop (pe_ix ix_list (pv 0) pe_int (fun _ _ => rfl))))))
    (pss_cons (ps_if (pt_cmpR (op_neD hr.units) (pe_ix ix_list (pv 0) pe_int (fun _ _ => rfl)) (pe_lst pa_nil) (nomark _))
      (pss_cons (ps_set (i := 2) sc__law_any.nd rfl (.inl rfl) (pe_callTy call_int1 (by rfl) gi (by decide +kernel)
          (pa_cons (pe_bm0 PySem.F.plainAttrs_list PySem.F.slot_list_pop PySem.F.type_list_pop mt_pop (pe_ix ix_list (pv 0) pe_int (fun _ _ => rfl))) pa_nil)))
        (pss_cons (ps_expr (pe_bm PySem.F.plainAttrs_list PySem.F.slot_list_append PySem.F.type_list_append mt_append (pe_ix ix_list (pv 0) pe_int (fun _ _ => rfl))
            (pa_cons (pe_op op_fdiv (pv 2) (pv 1)) pa_nil)))
          (pss_one (ps_ret (pe_op op_mod (pv 2) (pv 1)))))) pss_nil)
    (pss_cons (ps_asg (pe_op op_mod (pe_callTy call_int1 (by rfl) gi (by decide +kernel) (pa_cons (pe_op op_add (pe_op op_mul (pe_ix ix_list (pv 0) pe_int (fun _ _ => rfl)) pe_int) pe_int) pa_nil)) pe_int)
        (pg_sub (pv 0) pe_int set_list))
    (pss_one (ps_ret (pe_op op_mod (pe_callTy call_int1 (by rfl) gi (by decide +kernel) (pa_cons (pe_op op_fdiv (pe_ix ix_list (pv 0) pe_int (fun _ _ => rfl)) pe_int) pa_nil)) (pv 1)))))), ?_⟩
  · obtain ⟨p, q, m, rfl, _⟩ := h
    rfl
  · obtain ⟨p, q, m, rfl, ⟨ns, b, d⟩, hm0, hm1, hQ⟩ := h
    refine ⟨fun n σ H' => σ = L2.start ["deal", "bound", "rest"] [.ref p, .int m] ∧ ∃ ns b, DealAt H' p q ns b ∧ Fix p q H H' ∧ n = ns.length, ⟨_, rfl, ns, b, d, Fix.refl _ _ _, rfl⟩, ?_⟩
    rintro n σ H' ⟨rfl, ns, b, d, fx, rfl⟩
    have d1 : ∀ e, H' e = none → DealAt (upd H' e (.lst [])) p q ns b := fun e he => d.new he
    have qe : ∀ e, H' e = none → q ≠ e := fun e he z => by have := d.hq; rw [z, he] at this; cases this
    refine ⟨.ref p, rfl, p, [.ref q, .int b], 0, .ref q, rfl, rfl, SqL.of d.hp, rfl, by show 0 ≤ sizeLine; decide, fun e he => ?_⟩
    refine ⟨_, _, dp_ints (d1 e he).hq, .lst (ds := []) (SqL.of upd_same) .nil, sh_ints ns, by decide, _, rfl, ?_⟩
    rw [ne_nil_ints]
    have fx1 : Fix p q H (upd H' e (.lst [])) := fx.trans (Fix.new he)
    have D1 := d1 e he
    generalize hG : upd H' e (.lst []) = H1 at D1 fx1
    clear hG d d1 qe he fx
    rcases List.eq_nil_or_concat ns with hn | ⟨init, l, hn⟩
    · subst hn
      refine iteF ?_
      refine ⟨.ref p, rfl, p, [.ref q, .int b], 0, .ref q, rfl, rfl, SqL.of D1.hp, rfl, by show 0 ≤ sizeLine; decide, fun e he => ?_⟩
      refine ⟨_, _, dp_ints (D1.new he).hq, .lst (ds := []) (SqL.of upd_same) .nil, sh_ints [], by decide, _, rfl, ?_⟩
      rw [ne_nil_ints]
      refine iteF ?_
      have D2 := D1.new (o := .lst []) he
      have fx2 : Fix p q H (upd H1 e (.lst [])) := fx1.trans (Fix.new he)
      generalize upd H1 e (.lst []) = H2 at D2 fx2
      have D3 := D2.top (c := (b * 40693 + 71) % 2147483647) (Int.emod_nonneg _ (by decide)) (Int.emod_lt_of_pos _ (by decide))
      have fx3 : Fix p q H (upd H2 p (.lst [.ref q, .int ((b * 40693 + 71) % 2147483647)])) := fx2.trans Fix.p
      refine ⟨.ref p, rfl, p, [.ref q, .int b], 1, .int b, rfl, rfl, SqL.of D2.hp, rfl, b, 40693, rfl, rfl, .inr ⟨by decide, by decide⟩, ?_⟩
      refine ⟨_, _, rfl, rfl, .inl ⟨_, rfl, _, _, rfl, rfl, (by decide : (0 : Int) < 2147483647), ?_⟩⟩
      refine ⟨.ref p, rfl, p, [.ref q, .int b], 1, 1, rfl, rfl, D2.hp, rfl, ?_⟩
      refine ⟨.ref p, rfl, p, [.ref q, .int _], 1, .int _, rfl, rfl, SqL.of D3.hp, rfl, _, 64, rfl, rfl, ⟨by decide, by decide⟩, .inl ⟨_, rfl, .int m, rfl, _, m, rfl, rfl, hm0, ?_⟩⟩
      exact hQ _ _ ⟨_, _, D3⟩ fx3 (Int.emod_nonneg _ (by omega)) (Int.emod_lt_of_pos _ hm0)
    · have hn : ns = init ++ [l] := by simpa using hn
      subst hn
      have nz : decide (init ++ [l] = ([] : List Int)) = false := by simp
      rw [nz]
      refine iteT ?_
      have hml : (init ++ [l]).map V.int = init.map V.int ++ [V.int l] := by simp
      have hpop : (init.map V.int ++ [V.int l])[(init.map V.int ++ [V.int l]).length - 1]? = some (V.int l) := by simp
      have hdl : (init.map V.int ++ [V.int l]).dropLast = init.map V.int := by simp
      have l0 : 0 ≤ l := D1.nn l (by simp)
      have len := D1.len
      have len' : init.length + 1 ≤ 48 := by simpa using len
      have hq := D1.hq
      rw [hml] at hq
      refine ⟨.ref p, rfl, p, [.ref q, .int b], 0, .ref q, rfl, rfl, SqL.of D1.hp, rfl, 1, rfl, q, _, -1, V.int l, rfl, rfl, SqL.of hq, atI_last _ _, rfl, _, rfl, ?_⟩
      by_cases hl : l = 0
      · have e1 : decide (V.int l = V.int 0) = true := by rw [hl]; decide
        refine iteT' e1 ?_
        refine ⟨fun σ' H'' => σ' = L2.start ["deal", "bound", "rest"] [.ref p, .int m] ∧ ∃ ns b, DealAt H'' p q ns b ∧ Fix p q H H'' ∧ ns.length = init.length, fun σ' H'' ⟨e, ns, b, h1, h2, h3⟩ => ⟨_, by simpa [h3] using Nat.lt_succ_self init.length, e, ns, b, h1, h2, rfl⟩, ?_⟩
        refine ⟨.ref p, rfl, p, [.ref q, .int b], 0, .ref q, rfl, rfl, SqL.of D1.hp, rfl, .inl ⟨rfl, _, SqL.of hq⟩, q, _, .int l, rfl, rfl, hq, hpop, ?_⟩
        rw [hdl]
        exact ⟨rfl, init, b, D1.toq (fun n hn => D1.nn n (by simp [hn])) (by omega), fx1.trans Fix.q, rfl⟩
      · have e1 : decide (V.int l = V.int 0) = false := by simpa using hl
        refine iteF' e1 ?_
        refine ⟨.ref p, rfl, p, [.ref q, .int b], 0, .ref q, rfl, rfl, SqL.of D1.hp, rfl, by show 0 ≤ sizeLine; decide, fun e he => ?_⟩
        have D2 := D1.new (o := .lst []) he
        refine ⟨_, _, dp_ints D2.hq, .lst (ds := []) (SqL.of upd_same) .nil, sh_ints _, by decide, _, rfl, ?_⟩
        rw [ne_nil_ints, nz]
        refine iteT ?_
        have fx2 : Fix p q H (upd H1 e (.lst [])) := fx1.trans (Fix.new he)
        generalize upd H1 e (.lst []) = H2 at D2 fx2
        have hq2 := D2.hq
        rw [hml] at hq2
        have D3 : DealAt (upd H2 q (.lst (init.map V.int))) p q init b := D2.toq (fun n hn => D1.nn n (by simp [hn])) (by omega)
        have D4 : DealAt (upd (upd H2 q (.lst (init.map V.int))) q (.lst ((init ++ [l / m]).map V.int))) p q (init ++ [l / m]) b := D3.toq (fun n hn => by
          rcases List.mem_append.mp hn with h | h
          · exact D1.nn n (by simp [h])
          · rw [List.mem_singleton.mp h]; exact Int.ediv_nonneg l0 (by omega)) (by simpa using len')
        refine ⟨.ref p, rfl, p, [.ref q, .int b], 0, .ref q, rfl, rfl, SqL.of D2.hp, rfl, .inl ⟨rfl, _, SqL.of hq2⟩, q, _, .int l, rfl, rfl, hq2, hpop, .inl ⟨l, rfl, ?_⟩⟩
        rw [hdl]
        refine ⟨.ref p, rfl, p, [.ref q, .int b], 0, .ref q, rfl, rfl, SqL.of D3.hp, rfl, .inl ⟨rfl, _, SqL.of upd_same⟩, .int l, rfl, .int m, rfl, l, m, rfl, rfl, ⟨hm0, hm1⟩, q, _, _, rfl, rfl, upd_same, ?_, ?_⟩
        · rw [List.length_map]; exact Nat.lt_of_lt_of_le (by omega : init.length < 48) (by decide)
        have ha : init.map V.int ++ [V.int (l / m)] = (init ++ [l / m]).map V.int := by simp
        rw [ha]
        refine ⟨.int l, rfl, .int m, rfl, l, m, rfl, rfl, hm0, ?_⟩
        exact hQ _ _ ⟨_, _, D4⟩ (fx2.trans (Fix.q.trans Fix.q)) (Int.emod_nonneg _ (by omega)) (Int.emod_lt_of_pos _ hm0)
theorem ok_of {f fA : Addr} {fd fdA : FuncData} (F : Fun K "_law_of" "_law_of" s__law_of f fd) (FA : Fun K "_law_any" "_law_any" s__law_any fA fdA) (gA : mg "_law_any" = some (.ref fA))
    (gi : mg "int" = none) (gl : mg "len" = none) : FnOk P w K mg base CX0 2 f fd ["deal", "some"] (spOf K) := by
  refine F.ok sc__law_of (fun vs H Q E h => ?_) fun cdv A outer s H vs Q E hr h => ⟨_, pss_one (ps_ret (pe_ix ix_list (pv 1)
    (pe_call (ok_any FA gi) hr (by rfl) gA FA.kp (FA.binds fun _ _ _ _ _ _ us hl => match us, hl with | [_, _], _ => rfl) .nil pass0 (pa_cons (pv 0) (pa_cons (pe_callB call_len_seq (by rfl) gl (by decide +kernel) (by exact pa_cons (pv 1) pa_nil)) pa_nil))) (fun _ _ => rfl))), ?_⟩
  · obtain ⟨p, q, a, xs, rfl, _⟩ := h
    rfl
  · obtain ⟨p, q, a, xs, rfl, d, n1, n2, ha, h0, h1, hQ⟩ := h
    refine ⟨.ref a, rfl, .ref p, rfl, .ref a, rfl, a, xs, rfl, Or.inl (SqL.of ha), p, q, _, rfl, d, by omega, by omega, fun H' i d' fx i0 i1 => ?_⟩
    obtain ⟨n, rfl⟩ := Int.eq_ofNat_of_zero_le i0
    have hn : n < xs.length := by omega
    exact ⟨a, xs, n, xs[n], rfl, rfl, SqL.of (fx a _ n1 n2 ha), atI_nat (List.getElem?_eq_getElem hn), hQ H' _ (List.getElem_mem hn) d' fx⟩
end

def spDraw (K : PySem.W.Frag) : Sp := fun vs H Q _ => ∃ (a : Addr) (ns : List Int) (t : Int), vs = [.ref a, .int t] ∧ SqL K H a (ns.map V.int) ∧ 0 ≤ t ∧ t < 10000 ∧
  ∀ H' p q, Same H H' → H p = none → H q = none → Deal H' p q → Q (.ref p) H'
theorem cut48 (ns : List Int) : ∃ ms : List Int, cutV (ns.map V.int) none (some 48) = ms.map V.int ∧ ms.length ≤ 48 := by
  refine ⟨(ns.drop 0).take (HT.sIx ns.length ns.length (some 48) - 0), ?_, ?_⟩
  · unfold cutV
    rw [List.length_map, HT.sIx_none, List.map_take, List.map_drop]
  · rw [List.length_take]
    have : HT.sIx ns.length ns.length (some ((48 : Nat) : Int)) = min 48 ns.length := HT.sIx_nat _ _ 48
    have h2 : (some ((48 : Nat) : Int) : Option Int) = some 48 := rfl
    rw [h2] at this
    rw [this]
    omega
theorem Same.new {H : Hp} {a : Addr} {o : HO} (n : H a = none) : Same H (upd H a o) := fun b u h => by
  rw [upd_ne (fun z => by rw [z, n] at h; cases h)]; exact h
section
variable {P : Program} {w : World} {K : PySem.W.Frag} {mg : Str → Option Value} {base : Heap}
theorem ok_draw {f : Addr} {fd : FuncData} (F : Fun K "_law_draw" "_law_draw" s__law_draw f fd) (gi : mg "int" = none) (gab : mg "abs" = none) :
    FnOk P w K mg base CX0 1 f fd ["script", "salt"] (spDraw K) := by
  refine F.ok sc__law_draw (fun vs H Q E h => ?_) fun cdv A outer s H vs Q E hr h => ⟨_,
    pss_cons (ps_setLc (i := 2) (own := [("cell", 4)]) (g := gName 4) (tt := tYes) rfl sc__law_draw.nd rfl rfl (sw_true rfl rfl rfl (by decide +kernel)) (pi_list (pe_slice sl_list (pv 0) po_none (po_some pe_int)))
        (blkOk_by (N := ["script", "salt", "cells", "blend", "cell"]) (sc := defScope s__law_draw) (by decide +kernel)) (fun _ _ _ _ _ => pg_name (i := 4) sc__law_draw.nd rfl (Or.inl rfl)) (fun _ _ _ _ _ => pts_nil)
        (fun _ _ _ _ _ => pe_callB call_abs (by rfl) gab (by decide +kernel) (pa_cons (pe_callTy call_int1 (by rfl) gi (by decide +kernel) (pa_cons (pv 4) pa_nil)) pa_nil)))
    (pss_cons (ps_set (i := 3) sc__law_draw.nd rfl (.inl rfl) (pe_op op_add pe_int (pe_op op_mul pe_int (pv 1))))
    (pss_cons (ps_for PassesOwn.never rfl (pi_list (pv 2)) (pg_name (i := 4) sc__law_draw.nd rfl (Or.inl rfl))
      (pss_one (ps_set (i := 3) sc__law_draw.nd rfl (.inl rfl) (pe_op op_mod (pe_callTy call_int1 (by rfl) gi (by decide +kernel)
        (pa_cons (pe_op op_add (pe_op op_add (pe_op op_mul (pv 3) pe_int) (pe_op op_mod (pv 4) pe_int)) pe_int) pa_nil)) pe_int))))
    (pss_one (ps_ret (pe_lst (pa_cons (pe_revL (pe_lc (own := [("cell", 4)]) (g := gName 4) (by rfl) sc__law_draw.nd (pi_list (pv 2))
        (blkOk_by (own := [("cell", 4)]) (N := ["script", "salt", "cells", "blend", "cell"]) (sc := defScope s__law_draw) (by decide +kernel)) (fun _ _ _ _ _ => pg_name (i := 4) sc__law_draw.nd rfl (Or.inl rfl))
        (fun _ _ _ _ _ => pts_one (pt_cmpR op_ge (pv 4) (pe_op op_pow pe_int pe_int) (nomark _))) (fun _ _ _ _ _ => pv 4))) (pa_cons (pv 3) pa_nil))))))), ?_⟩
  · obtain ⟨a, ns, t, rfl, _⟩ := h
    rfl
  · obtain ⟨a, ns, t, rfl, ha, t0, t1, hQ⟩ := h
    obtain ⟨ms, hms, hlen⟩ := cut48 ns
    refine ⟨.ref a, rfl, 48, rfl, a, _, rfl, ha, fun c hc => ?_⟩
    rw [hms]
    have S1 : Same H (upd H c (.lst (ms.map V.int))) := Same.new hc
    have h1 : upd H c (.lst (ms.map V.int)) c = some (.lst (ms.map V.int)) := upd_same
    generalize upd H c (.lst (ms.map V.int)) = H1 at S1 h1
    refine ⟨c, rfl, ⟨_, SqL.of h1⟩, fun D hD => ?_⟩
    refine lc_list (xs := ms.map V.int) (fun i H' => Same H1 H' ∧ ∃ cs : List Int, H' D = some (.lst (cs.map V.int)) ∧ cs.length = i ∧ ∀ n ∈ cs, 0 ≤ n)
      ⟨Same.new hD, [], upd_same, rfl, by simp⟩ (fun i H' _ p => SqL.of (p.1 _ _ h1)) (fun i x H' hi p => ?_) (fun H' p => ?_)
    · obtain ⟨s1, cs, hc1, hl, h0⟩ := p
      have hi' := (List.getElem?_eq_some_iff.mp hi).1
      rw [List.length_map] at hi'
      rw [List.getElem?_map] at hi
      obtain ⟨n, _, rfl⟩ := Option.map_eq_some_iff.mp hi
      refine ⟨rfl, .int n, rfl, .inl ⟨n, rfl, n, rfl, cs.map V.int, hc1, ?_, ?_, cs ++ [if n < 0 then -n else n], ?_, ?_, ?_⟩⟩
      · rw [List.length_map]; exact Nat.lt_of_lt_of_le (by omega : cs.length < 48) (by decide)
      · exact fun b o h => by
          rw [upd_ne (fun z => ?_)]
          · exact s1 b o h
          · rw [z, hD] at h; cases h
      · rw [upd_same]; simp
      · simp [hl]
      · intro k hk
        rcases List.mem_append.mp hk with hk | hk
        · exact h0 k hk
        · rw [List.mem_singleton.mp hk]; split <;> omega
    · obtain ⟨s1, cs, hc1, hl, h0⟩ := p
      have hl : cs.length ≤ 48 := by rw [hl, List.length_map]; exact hlen
      have S2 := S1.trans s1
      have hDn : H D = none := S1.free hD
      refine ⟨.int t, rfl, 104729, t, rfl, rfl, .inl ⟨by decide, by decide⟩, 7919, _, rfl, rfl, ?_⟩
      refine ⟨.ref D, rfl, D, rfl, ⟨_, SqL.of hc1⟩, for_list (xs := cs.map V.int) (fun i σ H'' => H'' = H' ∧ ∃ b o, σ = [some (.ref a), some (.int t), some (.ref D), some (.int b), o] ∧ 0 ≤ b ∧ b < 2147483647)
        ⟨rfl, 7919 + 104729 * t, _, rfl, by omega, by omega⟩ (fun i σ H'' _ p => by rw [p.1]; exact SqL.of hc1) (fun i x σ H'' hi p => ?_) (fun σ H'' p => ?_)⟩
      · obtain ⟨rfl, b, o, rfl, b0, b1⟩ := p
        rw [List.getElem?_map] at hi
        obtain ⟨n, _, rfl⟩ := Option.map_eq_some_iff.mp hi
        refine ⟨.int b, rfl, b, 48271, rfl, rfl, .inr ⟨by decide, by decide⟩, .int n, rfl, n, 2147483549, rfl, rfl, (by decide : (0 : Int) < 2147483549), _, _, rfl, rfl, _, 11, rfl, rfl, .inl ⟨_, rfl, _, 2147483647, rfl, rfl, (by decide : (0 : Int) < 2147483647), ?_⟩⟩
        exact ⟨rfl, _, _, rfl, Int.emod_nonneg _ (by decide), Int.emod_lt_of_pos _ (by decide)⟩
      · obtain ⟨rfl, b, o, rfl, b0, b1⟩ := p
        refine ⟨.ref D, rfl, D, rfl, ⟨_, SqL.of hc1⟩, fun D2 hD2 => ?_⟩
        refine lc_list (xs := cs.map V.int) (fun i H2 => Same H'' H2 ∧ ∃ es : List Int, H2 D2 = some (.lst (es.map V.int)) ∧ es.length ≤ i ∧ ∀ n ∈ es, 0 ≤ n)
          ⟨Same.new hD2, [], upd_same, Nat.le_refl _, by simp⟩ (fun i H2 _ p => SqL.of (p.1 _ _ hc1)) (fun i x H2 hi p => ?_) (fun H2 p => ?_)
        · obtain ⟨s1, es, he1, hl, h0'⟩ := p
          have hi' := (List.getElem?_eq_some_iff.mp hi).1
          rw [List.length_map] at hi'
          rw [List.getElem?_map] at hi
          obtain ⟨n, hn, rfl⟩ := Option.map_eq_some_iff.mp hi
          have hmem := List.mem_of_getElem? hn
          refine ⟨rfl, .int n, rfl, 10, 18, rfl, rfl, ⟨by decide, by decide, by decide⟩, n, _, rfl, rfl, _, rfl, ?_⟩
          by_cases hb : decide ((10 : Int) ^ (18 : Int).toNat ≤ n) = true
          · refine iteT' hb ⟨.int n, rfl, es.map V.int, he1, ?_, ?_, es ++ [n], ?_, ?_, ?_⟩
            · rw [List.length_map]; exact Nat.lt_of_lt_of_le (by omega : es.length < 48) (by decide)
            · exact fun b o h => by
                rw [upd_ne (fun z => ?_)]
                · exact s1 b o h
                · rw [z, hD2] at h; cases h
            · rw [upd_same]; simp
            · simp; omega
            · intro k hk
              rcases List.mem_append.mp hk with hk | hk
              · exact h0' k hk
              · rw [List.mem_singleton.mp hk]; exact h0 n hmem
          · exact iteF' (by simpa using hb) ⟨s1, es, he1, by omega, h0'⟩
        · obtain ⟨s1, es, he1, hl2, h0'⟩ := p
          rw [List.length_map] at hl2
          refine ⟨D2, _, rfl, SqL.of he1, fun q hq => ?_⟩
          refine ⟨.int b, rfl, by show 2 ≤ sizeLine; decide, fun p hp => ?_⟩
          have S3 := (S2.trans s1).trans (Same.new (o := .lst (es.map V.int).reverse) hq)
          have hqp : p ≠ q := fun z => by rw [z, upd_same] at hp; cases hp
          refine hQ _ p q (S3.trans (Same.new hp)) ((S3).free hp) ((S2.trans s1).free hq) ⟨es.reverse, b, upd_same, ?_, hqp, fun n hn => h0' n (by simpa using hn), by simp; omega, b0, b1⟩
          rw [upd_ne (Ne.symm hqp), upd_same, List.map_reverse]
end
end K69

namespace K69
open PySem PySem.Spec PyProof.Rows L2 KX
/-! ### classes of values -/
theorem tyx_same {K : PySem.W.Frag} {H H' : Hp} {x : V} {t : Value} (h : TyX K H x t) (s : Same H H') : TyX K H' x t := by
  cases h with
  | base h =>
    refine .base ?_
    cases h with
    | lst e => exact .lst (s _ _ e)
    | frz e => exact .frz (s _ _ e)
    | tup e => exact .tup (s _ _ e)
    | dK e => exact .dK (s _ _ e)
    | dT e => exact .dT (s _ _ e)
    | ins e a b c d f => exact .ins (s _ _ e) a b c d f
    | _ => constructor
  | byt b => exact .byt b
  | set e => exact .set (s _ _ e)
  | kList e c => exact .kList e c
  | kTuple e c => exact .kTuple e c
  | kDict e c => exact .kDict e c
  | fTuple e => exact .fTuple (s _ _ e)
  | fDict e => exact .fDict (s _ _ e)
theorem kin_same {K : PySem.W.Frag} {H H' : Hp} {x : V} {o : Option Int} (h : Kin K H x o) (s : Same H H') : Kin K H' x o := by
  cases h with
  | int i => exact .int i
  | oth t h1 h2 h3 => exact .oth (tyx_same t s) h1 h2 h3
theorem kins_same {K : PySem.W.Frag} {H H' : Hp} {xs : List V} {os : List (Option Int)} (h : Paired (Kin K H) xs os) (s : Same H H') : Paired (Kin K H') xs os := by
  induction h with
  | nil => exact .nil
  | cons a _ ih => exact .cons (kin_same a s) ih
inductive SqX (K : PySem.W.Frag) (H : Hp) : V → Option (List V) → Prop
  | lst {a : Addr} {xs : List V} (h : H a = some (.lst xs)) : SqX K H (.ref a) (some xs)
  | tup {a : Addr} {xs : List V} (h : Tup H a xs) : SqX K H (.ref a) (some xs)
  | oth {x : V} {n : String} (t : TyX K H x (.type n)) (h1 : kitB n "list" = some false) (h2 : kitB n "tuple" = some false) : SqX K H x none
theorem sqx_same {K : PySem.W.Frag} {H H' : Hp} {x : V} {o : Option (List V)} (h : SqX K H x o) (s : Same H H') : SqX K H' x o := by
  cases h with
  | lst h => exact .lst (s _ _ h)
  | tup h => exact .tup (h.same s)
  | oth t h1 h2 => exact .oth (tyx_same t s) h1 h2
theorem SqX.ty {K : PySem.W.Frag} {H : Hp} {x : V} {o : Option (List V)} (h : SqX K H x o) : ∃ n b1 b2, TyX K H x (.type n) ∧ kitB n "list" = some b1 ∧ kitB n "tuple" = some b2 ∧ (b1 || b2) = o.isSome := by
  cases h with
  | lst h => exact ⟨"list", true, false, .base (.lst h), by decide +kernel, by decide +kernel, rfl⟩
  | tup h => exact ⟨"tuple", false, true, h.ty, by decide +kernel, by decide +kernel, rfl⟩
  | oth t h1 h2 => exact ⟨_, _, _, t, h1, h2, rfl⟩
theorem kit_any {K : PySem.W.Frag} {n : String} {b1 b2 : Bool} (h1 : kitB n "list" = some b1) (h2 : kitB n "tuple" = some b2) :
    PySem.W.kitAny K (.type n) [.type "list", .type "tuple"] = some (b1 || b2) := by
  have k1 : PySem.W.kitOne K (.type n) (.type "list") = some b1 := kit_ty h1
  have k2 : PySem.W.kitOne K (.type n) (.type "tuple") = some b2 := kit_ty h2
  unfold PySem.W.kitAny
  rw [k1]
  cases b1 with
  | true => rfl
  | false =>
    show PySem.W.kitAny K (.type n) [.type "tuple"] = some b2
    unfold PySem.W.kitAny
    rw [k2]
    cases b2 <;> rfl
def numB : Option Int → Bool
  | some i => decide (0 ≤ i)
  | none => false
def belB (o : Option Int) (n : Int) : Bool := match o with
  | some i => decide (0 ≤ i) && decide (i < n)
  | none => false
abbrev bel4 (o : Option Int) : Bool := belB o 4
/-! ### what the defs do -/
def spIsInt (K : PySem.W.Frag) : Sp := fun vs H Q _ => ∃ x o, vs = [x] ∧ Kin K H x o ∧ Q (.bl o.isSome) H
def spNum (K : PySem.W.Frag) : Sp := fun vs H Q _ => ∃ x o, vs = [x] ∧ Kin K H x o ∧ Q (.bl (numB o)) H
def spBelow (K : PySem.W.Frag) : Sp := fun vs H Q _ => ∃ x o, ∃ n : Int, vs = [x, .int n] ∧ Kin K H x o ∧ Q (.bl (belB o n)) H
def spMode (K : PySem.W.Frag) : Sp := fun vs H Q _ => ∃ x o, vs = [x] ∧ Kin K H x o ∧ Q (.bl (bel4 o)) H
def spSeq (K : PySem.W.Frag) : Sp := fun vs H Q _ => ∃ x o, vs = [x] ∧ SqX K H x o ∧ ∀ H', Same H H' → Q (.bl o.isSome) H'
section
variable {P : Program} {w : World} {K : PySem.W.Frag} {mg : Str → Option Value} {base : Heap} {f1 f2 f3 : Addr} {d1 d2 d3 : FuncData} {f : Addr} {fd : FuncData}
theorem ok_int (F : Fun K "is_integer" "is_integer" s_is_integer f fd) (gI : mg "isinstance" = none)
    (gi : mg "int" = none) (gb : mg "bool" = none) : FnOk P w K mg base CX0 1 f fd ["value"] (spIsInt K) := by
  refine F.ok sc_is_integer (fun vs H Q E h => ?_) fun cdv A outer s H vs Q E hr h => ⟨_, pss_one (ps_ret (pe_and
      (pe_callB call_isi (by rfl) gI (by decide +kernel) (by exact pa_cons (pv 0) (pa_cons (pe_bltn (v := .ty "int") rfl gi (by decide +kernel) rfl) pa_nil)))
      (pe_one (pe_not (pe_callB call_isi (by rfl) gI (by decide +kernel)
        (by exact pa_cons (pv 0) (pa_cons (pe_bltn (v := .ty "bool") rfl gb (by decide +kernel) rfl) pa_nil))))))), ?_⟩
  · obtain ⟨x, o, rfl, _⟩ := h
    rfl
  · obtain ⟨x, o, rfl, hk, hQ⟩ := h
    obtain ⟨n, b1, b2, ty, k1, k2, e⟩ := hk.ty
    refine ⟨_, rfl, x, .ty "int", _, _, b1, rfl, .ty "int", ty, kit_ty k1, b1, rfl, ?_⟩
    rw [← e] at hQ
    cases b1 with
    | false => exact iteF hQ
    | true => exact iteT ⟨_, rfl, x, .ty "bool", _, _, b2, rfl, .ty "bool", ty, kit_ty k2, b2, rfl, hQ⟩
theorem ok_num (F : Fun K "is_number" "is_number" s_is_number f fd) (F1 : Fun K "is_integer" "is_integer" s_is_integer f1 d1) (G1 : FnOk P w K mg base CX0 1 f1 d1 ["value"] (spIsInt K))
    (g1 : mg "is_integer" = some (.ref f1)) : FnOk P w K mg base CX0 2 f fd ["value"] (spNum K) := by
  refine F.ok sc_is_number (fun vs H Q E h => ?_) fun cdv A outer s H vs Q E hr h => ⟨_, pss_one (ps_ret (pe_and
      (pe_call G1 hr (by rfl) g1 F1.kp (F1.binds fun _ _ _ _ _ _ us hl => match us, hl with | [_], _ => rfl) .nil pass0 (by exact pa_cons (pv 0) pa_nil))
      (pe_one (pe_cmpR op_ge (pv 0) pe_int (nomark _))))), ?_⟩
  · obtain ⟨x, o, rfl, _⟩ := h
    rfl
  · obtain ⟨x, o, rfl, hk, hQ⟩ := h
    refine ⟨x, rfl, x, o, rfl, hk, o.isSome, rfl, ?_⟩
    cases hk with
    | int i => exact iteT ⟨.int i, rfl, i, 0, rfl, rfl, hQ⟩
    | oth t h1 h2 h3 => exact iteF hQ
theorem ok_below (F : Fun K "is_below" "is_below" s_is_below f fd) (F1 : Fun K "is_number" "is_number" s_is_number f1 d1) (G1 : FnOk P w K mg base CX0 2 f1 d1 ["value"] (spNum K))
    (g1 : mg "is_number" = some (.ref f1)) : FnOk P w K mg base CX0 3 f fd ["value", "limit"] (spBelow K) := by
  refine F.ok sc_is_below (fun vs H Q E h => ?_) fun cdv A outer s H vs Q E hr h => ⟨_, pss_one (ps_ret (pe_and
      (pe_call G1 hr (by rfl) g1 F1.kp (F1.binds fun _ _ _ _ _ _ us hl => match us, hl with | [_], _ => rfl) .nil pass0 (by exact pa_cons (pv 0) pa_nil))
      (pe_one (pe_cmpR op_lt (pv 0) (pv 1) (nomark _))))), ?_⟩
  · obtain ⟨x, o, n, rfl, _⟩ := h
    rfl
  · obtain ⟨x, o, n, rfl, hk, hQ⟩ := h
    refine ⟨x, rfl, x, o, rfl, hk, numB o, rfl, ?_⟩
    cases hk with
    | int i =>
      have e : belB (some i) n = (decide (0 ≤ i) && decide (i < n)) := rfl
      rw [e] at hQ
      by_cases h0 : 0 ≤ i
      · rw [decide_eq_true h0, Bool.true_and] at hQ
        exact iteT' (decide_eq_true h0) ⟨.int i, rfl, .int n, rfl, i, n, rfl, rfl, hQ⟩
      · rw [decide_eq_false h0, Bool.false_and] at hQ
        exact iteF' (decide_eq_false h0) hQ
    | oth t h1 h2 h3 => exact iteF hQ
end
section
variable {P : Program} {w : World} {K : PySem.W.Frag} {mg : Str → Option Value} {base : Heap} (T : TX K mg)
theorem G_is_integer : FnOk P w K mg base CX0 1 T.f_is_integer T.d_is_integer ["value"] (spIsInt K) := ok_int T.F_is_integer T.n_isinstance T.n_int T.n_bool
theorem G_is_number : FnOk P w K mg base CX0 2 T.f_is_number T.d_is_number ["value"] (spNum K) := ok_num T.F_is_number T.F_is_integer (G_is_integer T) T.m_is_integer
theorem G_is_below : FnOk P w K mg base CX0 3 T.f_is_below T.d_is_below ["value", "limit"] (spBelow K) := ok_below T.F_is_below T.F_is_number (G_is_number T) T.m_is_number
theorem G__law_any : FnOk P w K mg base CX0 1 T.f__law_any T.d__law_any ["deal", "bound"] spAny := ok_any T.F__law_any T.n_int
theorem G__law_of : FnOk P w K mg base CX0 2 T.f__law_of T.d__law_of ["deal", "some"] (spOf K) := ok_of T.F__law_of T.F__law_any T.m__law_any T.n_int T.n_len
theorem G__law_draw : FnOk P w K mg base CX0 1 T.f__law_draw T.d__law_draw ["script", "salt"] (spDraw K) := ok_draw T.F__law_draw T.n_int T.n_abs
end
end K69

namespace K69
open PySem PySem.Spec PyProof.Rows L2 KX
local macro_rules | `(tactic| walk_at "rd1") => `(tactic| first
  | with_reducible refine rd_seq ?_
  | with_reducible refine rd_for ?_
  | with_reducible refine rd_lc ?_
  | with_reducible refine rd_asg ?_
  | ((with_reducible refine' rd_var ?rdv ?_); (case rdv => exact rfl))
  | with_reducible refine rd_c ?_
  | with_reducible refine rd_op ?_
  | with_reducible refine rd_un ?_
  | with_reducible refine rd_cons ?_
  | with_reducible refine rd_nil ?_
  | with_reducible refine rd_call ?_
  | with_reducible refine rd_cb ?_
  | with_reducible refine rd_tB ?_
  | with_reducible refine rd_test ?_
  | with_reducible refine rd_bl ?_
  | with_reducible refine rd_rI0 ?_
  | with_reducible refine rd_eqI ?_
  | with_reducible refine rd_neI ?_
  | with_reducible refine rd_rU ?_
  | with_reducible refine rd_name ?_
  | with_reducible refine rd_ifs ?_
  | with_reducible refine rd_and ?_
  | with_reducible refine rd_or ?_
  | with_reducible refine rd_not ?_
  | with_reducible refine rd_yes ?_
  | with_reducible refine rd_andV ?_
  | with_reducible refine rd_orV ?_
  | with_reducible refine rd_notV ?_
  | with_reducible refine rd_if ?_
  | with_reducible refine rd_isN ?_
  | with_reducible refine rd_iT ?_
  | with_reducible refine rd_iF ?_
  | with_reducible refine rd_ret ?_
  | with_reducible refine rd_retN ?_
  | with_reducible refine rd_drop ?_
  | with_reducible refine rd_next ?_
  | with_reducible refine rd_cont ?_
  | with_reducible refine rd_brk ?_
  | with_reducible refine rd_nx ?_
  | with_reducible refine rd_rt ?_
  | with_reducible refine rd_ct ?_
  | with_reducible refine rd_bk ?_
  | with_reducible refine rd_par ?_
  | with_reducible refine rd_par3 ?_
  | with_reducible refine rd_par2 ?_
  | with_reducible refine rd_par33 ?_
  | with_reducible refine rd_gcons ?_
  | with_reducible refine rd_gnil ?_
  | with_reducible refine rd_sub ?_
  | with_reducible refine rd_tup ?_
  | with_reducible refine rd_lst ?_
  | ((with_reducible refine rd_tupT ?hl ?_); (case hl => exact Nat.le_of_ble_eq_true rfl))
  | ((with_reducible refine rd_lstT ?hl ?_); (case hl => exact Nat.le_of_ble_eq_true rfl))
  | with_reducible refine rd_bm ?_
  | with_reducible refine rd_bm0 ?_
  | with_reducible refine rd_sl ?_
  | with_reducible refine rd_noP ?_
  | with_reducible refine rd_part ?_
  | with_reducible refine rd_int ?_
  | with_reducible refine rd_int1 ?_
  | with_reducible refine rd_fld ?_
  | with_reducible refine rd_then ?_
  | with_reducible refine rd_raise ?_
  | with_reducible refine rd_one ?_
  | with_reducible refine rd_sfld ?_
  | with_reducible refine rd_ilist ?_
  | with_reducible refine rd_itup ?_
  | with_reducible refine rd_rng1 ?_
  | with_reducible refine rd_enum ?_
  | with_reducible refine rd_enumT ?_)
local macro_rules | `(tactic| walk_at "rd") => `(tactic| repeat (walk_at "rd1"))
/-- a comprehension over a list or a tuple, its values told -/
theorem lcv_both {K : PySem.W.Frag} {g : TG} {te ti : TE} {vs : List Nat} {σ : L2.St} {H1 : Hp} {x : V} {xs : List V} {Q : Addr → Hp → Prop} (zs : List V) (hx : SqX K H1 x (some xs)) (hi : ∀ R : VK, R x H1 → ti σ H1 R) (lz : zs.length = xs.length) (hz : zs.length < 1000000)
    (hs : ∀ (i : Nat) (x z : V) (H' : Hp), xs[i]? = some x → zs[i]? = some z → Same H1 H' → ∀ R : VK, (∀ H4, Same H' H4 → R z H4) → g x (wipe σ vs) H' fun σ2 H2 => wipe σ2 vs = wipe σ vs ∧ te σ2 H2 R)
    (hd : ∀ H' D, Same H1 H' → H' D = some (.lst zs) → Q D H') {R : It → Hp → Prop} (hR : R = fun J H1 => ∀ D, H1 D = none → ∃ W : Nat → Nat → Hp → Prop, (∃ m, W 0 m (upd H1 D (.lst []))) ∧ ∀ i m H, W i m H →
      (J.stop i H ∧ Q D H) ∨ (J.go i H ∧ ∃ Nx : Hp → Prop, (∀ H', Nx H' → ∃ m', m' < m ∧ W (i + 1) m' H') ∧ ∀ x H', J.yld i H x H' → g x (wipe σ vs) H' fun σ2 H2 => wipe σ2 vs = wipe σ vs ∧ tYes σ2 H2 fun b H3 =>
        if b = true then te σ2 H3 fun y H4 => ∃ acc, H4 D = some (.lst acc) ∧ acc.length < sizeLine ∧ Nx (upd H4 D (.lst (acc ++ [y]))) else Nx H3)) : iList K ti σ H1 R ∨ iTup K ti σ H1 R := by
  subst hR
  cases hx with
  | lst h => exact .inl (hi _ ⟨_, rfl, ⟨_, SqL.of h⟩, fun D hD => lcv_list zs h lz hz hD hs fun H' S e => hd H' D S e⟩)
  | tup h => exact .inr (hi _ ⟨_, rfl, ⟨_, h.sq⟩, fun D hD => lcv_tup zs h lz hz hD hs fun H' S e => hd H' D S e⟩)
/-- a tuple of so many -/
def spIsTup (K : PySem.W.Frag) : L2.Sp := fun vs H Q _ => ∃ (x : V) (k : Int), vs = [x, .int k] ∧
  ((∃ n, TyX K H x (.type n) ∧ kitB n "tuple" = some false ∧ Q (.bl false) H) ∨ ∃ a xs, x = .ref a ∧ Tup H a xs ∧ Q (.bl (decide ((xs.length : Int) = k))) H)
section
variable {P : Program} {w : World} {K : PySem.W.Frag} {mg : Str → Option Value} {base : Heap} (T : TX K mg)
theorem G_is_tuple_of : FnOk P w K mg base CX0 1 T.f_is_tuple_of T.d_is_tuple_of ["value", "length"] (spIsTup K) := by
  refine T.F_is_tuple_of.ok sc_is_tuple_of (fun vs H Q E h => ?_) fun cdv A outer s H vs Q E hr h => ⟨_, (pss_one (ps_ret (pe_and (pe_callB (cr_isiK (K := K)) (by rfl) T.n_isinstance (by decide +kernel) (by exact (pa_cons (pv 0) (pa_cons (pe_bltn (v := .ty "tuple") rfl T.n_tuple (by decide +kernel) rfl) pa_nil)))) (pe_one (pe_cmpR op_eq (pe_callB (cr_lenK (K := K)) (by rfl) T.n_len (by decide +kernel) (by exact (pa_cons (pv 0) pa_nil))) (pv 1) (nomark _)))))), ?_⟩
  · obtain ⟨x, k, rfl, _⟩ := h
    rfl
  · obtain ⟨x, k, rfl, h⟩ := h
    walk_at "rd"
    rcases h with ⟨n, ty, k1, hQ⟩ | ⟨a, xs, rfl, ha, hQ⟩
    · refine ⟨_, _, _, _, _, rfl, .ty "tuple", ty, kit_ty k1, ?_⟩
      walk_at "rd"
      exact hQ
    · refine ⟨_, _, _, _, true, rfl, .ty "tuple", ha.ty, kit_ty (by decide +kernel), ?_⟩
      walk_at "rd"
      refine rd_lenTup ha ?_
      walk_at "rd"
      exact hQ
end
end K69

namespace K69
open PySem PySem.Spec PyProof.Rows L2 KX
local macro_rules | `(tactic| walk_at "rd1") => `(tactic| first
  | with_reducible refine rd_seq ?_
  | with_reducible refine rd_for ?_
  | with_reducible refine rd_lc ?_
  | with_reducible refine rd_asg ?_
  | ((with_reducible refine' rd_var ?rdv ?_); (case rdv => exact rfl))
  | with_reducible refine rd_c ?_
  | with_reducible refine rd_op ?_
  | with_reducible refine rd_un ?_
  | with_reducible refine rd_cons ?_
  | with_reducible refine rd_nil ?_
  | with_reducible refine rd_call ?_
  | with_reducible refine rd_cb ?_
  | with_reducible refine rd_tB ?_
  | with_reducible refine rd_test ?_
  | with_reducible refine rd_bl ?_
  | with_reducible refine rd_rI0 ?_
  | with_reducible refine rd_eqI ?_
  | with_reducible refine rd_neI ?_
  | with_reducible refine rd_rU ?_
  | with_reducible refine rd_name ?_
  | with_reducible refine rd_ifs ?_
  | with_reducible refine rd_and ?_
  | with_reducible refine rd_or ?_
  | with_reducible refine rd_not ?_
  | with_reducible refine rd_yes ?_
  | with_reducible refine rd_andV ?_
  | with_reducible refine rd_orV ?_
  | with_reducible refine rd_notV ?_
  | with_reducible refine rd_if ?_
  | with_reducible refine rd_isN ?_
  | with_reducible refine rd_iT ?_
  | with_reducible refine rd_iF ?_
  | with_reducible refine rd_ret ?_
  | with_reducible refine rd_retN ?_
  | with_reducible refine rd_drop ?_
  | with_reducible refine rd_next ?_
  | with_reducible refine rd_cont ?_
  | with_reducible refine rd_brk ?_
  | with_reducible refine rd_nx ?_
  | with_reducible refine rd_rt ?_
  | with_reducible refine rd_ct ?_
  | with_reducible refine rd_bk ?_
  | with_reducible refine rd_par ?_
  | with_reducible refine rd_par3 ?_
  | with_reducible refine rd_par2 ?_
  | with_reducible refine rd_par33 ?_
  | with_reducible refine rd_gcons ?_
  | with_reducible refine rd_gnil ?_
  | with_reducible refine rd_sub ?_
  | with_reducible refine rd_tup ?_
  | with_reducible refine rd_lst ?_
  | ((with_reducible refine rd_tupT ?hl ?_); (case hl => exact Nat.le_of_ble_eq_true rfl))
  | ((with_reducible refine rd_lstT ?hl ?_); (case hl => exact Nat.le_of_ble_eq_true rfl))
  | with_reducible refine rd_bm ?_
  | with_reducible refine rd_bm0 ?_
  | with_reducible refine rd_sl ?_
  | with_reducible refine rd_noP ?_
  | with_reducible refine rd_part ?_
  | with_reducible refine rd_int ?_
  | with_reducible refine rd_int1 ?_
  | with_reducible refine rd_fld ?_
  | with_reducible refine rd_then ?_
  | with_reducible refine rd_raise ?_
  | with_reducible refine rd_one ?_
  | with_reducible refine rd_sfld ?_
  | with_reducible refine rd_ilist ?_
  | with_reducible refine rd_itup ?_
  | with_reducible refine rd_rng1 ?_
  | with_reducible refine rd_enum ?_
  | with_reducible refine rd_enumT ?_)
local macro_rules | `(tactic| walk_at "rd") => `(tactic| repeat (walk_at "rd1"))
theorem paired_get {α β : Type} {F : α → β → Prop} {l : List α} {m : List β} (h : Paired F l m) : ∀ {i : Nat} {x : α}, l[i]? = some x → ∃ y, m[i]? = some y ∧ F x y := by
  induction h with
  | nil => intro i x e; simp at e
  | @cons a b l m hab t ih =>
    intro i x e
    cases i with
    | zero => simp at e; subst e; exact ⟨b, by simp, hab⟩
    | succ j => simp at e; obtain ⟨y, h1, h2⟩ := ih e; exact ⟨y, by simpa using h1, h2⟩
theorem paired_len {α β : Type} {F : α → β → Prop} {l : List α} {m : List β} (h : Paired F l m) : l.length = m.length := by
  induction h with
  | nil => rfl
  | cons _ _ ih => simp [ih]
theorem Same.put {H H' : Hp} {D : Addr} {o : HO} (s : Same H H') (n : H D = none) : Same H (L2.upd H' D o) := fun c u h => by
  rw [upd_ne (fun z => by rw [z, n] at h; cases h)]
  exact s c u h
theorem paired_mono {α β : Type} {F G : α → β → Prop} {l : List α} {m : List β} (h : Paired F l m) (f : ∀ a b, F a b → G a b) : Paired G l m := by
  induction h with
  | nil => exact .nil
  | cons a _ ih => exact .cons (f _ _ a) ih
theorem inV_ints (b : Int) : ∀ row : List Int, inV (.int b) (row.map V.int) = decide (b ∈ row)
  | [] => rfl
  | x :: row => by
    have h := inV_ints b row
    show (eqV (.int x) (.int b) || inV (.int b) (row.map V.int)) = _
    rw [h]
    have e : eqV (.int x) (.int b) = decide (x = b) := by
      first
        | rfl
        | (simp [eqV])
    rw [e]
    by_cases z : x = b
    · simp [z]
    · have z' : ¬ b = x := fun q => z q.symm
      simp [z, z']
theorem flat_ints : ∀ row : List Int, (row.map V.int).all flatV = true
  | [] => rfl
  | x :: row => by
    show (flatV (.int x) && (row.map V.int).all flatV) = true
    rw [flat_ints row]; rfl
theorem rd_notInI {K : PySem.W.Frag} {H : Hp} {p : Addr} {row : List Int} {b : Int} {Q : VK} (ha : SqL K H p (row.map V.int) ∨ SqT K H p (row.map V.int)) (h : Q (.bl (!decide (b ∈ row))) H) : rIn K true (.int b) (.ref p) H Q :=
  ⟨p, _, rfl, ha, rfl, flat_ints row, by rw [inV_ints]; exact h⟩
theorem rd_inI {K : PySem.W.Frag} {H : Hp} {p : Addr} {row : List Int} {b : Int} {Q : VK} (ha : SqL K H p (row.map V.int) ∨ SqT K H p (row.map V.int)) (h : Q (.bl (decide (b ∈ row))) H) : rIn K false (.int b) (.ref p) H Q :=
  ⟨p, _, rfl, ha, rfl, flat_ints row, by rw [inV_ints]; exact h⟩
def RowT (H : Hp) (q : Addr) (ns : List Int) : Prop := Tup H q (ns.map V.int)
def PairAt (H : Hp) (q : Addr) (e : Int × Int) : Prop := H q = some (.tup [.int e.1, .int e.2])
theorem dp_pair {K : PySem.W.Frag} {H : Hp} {q : Addr} {e : Int × Int} (h : PairAt H q e) : Dp K H (.ref q) (dP e) := .tup (SqT.of h) (.cons (.int _) (.cons (.int _) .nil))
theorem dp_pairs {K : PySem.W.Frag} {H : Hp} {ps : List Addr} {L : List (Int × Int)} (h : Paired (PairAt H) ps L) : DpAll K H (ps.map V.ref) (L.map dP) := by
  induction h with
  | nil => exact .nil
  | cons a _ ih => exact .cons (dp_pair a) ih
def inc (s : Int) (e : Int × Int) : Bool := decide (e.1 = s) || decide (e.2 = s)
def norm (e : Int × Int) : Int × Int := if e.1 ≤ e.2 then e else (e.2, e.1)
structure Good (n : Nat) (d : Nat) (L : List (Int × Int)) : Prop where
  rng : ∀ e ∈ L, 0 ≤ e.1 ∧ e.1 < e.2 ∧ e.2 < n
  nd : L.Nodup
  deg : ∀ s : Int, (L.filter (inc s)).length ≤ d
def lexlt (e f : Int × Int) : Prop := e.1 < f.1 ∨ e.1 = f.1 ∧ e.2 < f.2
def nb (M : List (Int × Int)) (a : Int) : List Int := M.filterMap fun e => if e.1 = a then some e.2 else if e.2 = a then some e.1 else none
theorem nb_append (M M' : List (Int × Int)) (a : Int) : nb (M ++ M') a = nb M a ++ nb M' a := by unfold nb; exact List.filterMap_append
theorem nb_one (x y a : Int) : nb [(x, y)] a = if x = a then [y] else if y = a then [x] else [] := by
  unfold nb
  by_cases h1 : x = a
  · simp [h1]
  · by_cases h2 : y = a <;> simp [h1, h2]
theorem nb_len (M : List (Int × Int)) (a : Int) : (nb M a).length = (M.filter (inc a)).length := by
  induction M with
  | nil => rfl
  | cons e M ih =>
    obtain ⟨x, y⟩ := e
    have h : nb ((x, y) :: M) a = nb [(x, y)] a ++ nb M a := nb_append [(x, y)] M a
    rw [h, nb_one, List.length_append, ih]
    by_cases h1 : x = a
    · simp [inc, h1]; omega
    · by_cases h2 : y = a
      · simp [inc, h1, h2]; omega
      · simp [inc, h1, h2]
theorem inc_norm (a : Int) (e : Int × Int) : inc a (norm e) = inc a e := by
  unfold norm
  split
  · rfl
  · show (decide (e.2 = a) || decide (e.1 = a)) = (decide (e.1 = a) || decide (e.2 = a))
    exact Bool.or_comm _ _
theorem filter_len_le {M : List (Int × Int)} {p : Int × Int → Bool} {i : Nat} {e : Int × Int} (h : M[i]? = some e) (hp : p e = true) : ((M.take i).filter p).length < (M.filter p).length := by
  have hi := (List.getElem?_eq_some_iff.mp h).1
  have e1 : M = M.take (i + 1) ++ M.drop (i + 1) := (List.take_append_drop _ _).symm
  have et : M.take (i + 1) = M.take i ++ [e] := by rw [List.take_succ, h]; rfl
  have z : (M.filter p).length = ((M.take (i + 1)).filter p).length + ((M.drop (i + 1)).filter p).length := by
    have e2 : M.filter p = (M.take (i + 1)).filter p ++ (M.drop (i + 1)).filter p := by
      rw [← List.filter_append, List.take_append_drop]
    rw [e2, List.length_append]
  rw [z, et, List.filter_append, List.length_append]
  simp [hp]
  omega
theorem perm_filter_len {L M : List (Int × Int)} (h : L.Perm M) (p : Int × Int → Bool) : (L.filter p).length = (M.filter p).length := (h.filter p).length_eq
end K69

namespace K69
open PySem PySem.Spec PyProof.Rows L2 KX
local macro_rules | `(tactic| walk_at "rd1") => `(tactic| first
  | with_reducible refine rd_seq ?_
  | with_reducible refine rd_asg ?_
  | ((with_reducible refine' rd_var ?rdv ?_); (case rdv => exact rfl))
  | with_reducible refine rd_c ?_
  | with_reducible refine rd_op ?_
  | with_reducible refine rd_un ?_
  | with_reducible refine rd_cons ?_
  | with_reducible refine rd_nil ?_
  | with_reducible refine rd_call ?_
  | with_reducible refine rd_cb ?_
  | with_reducible refine rd_tB ?_
  | with_reducible refine rd_test ?_
  | with_reducible refine rd_bl ?_
  | with_reducible refine rd_rI0 ?_
  | with_reducible refine rd_eqI ?_
  | with_reducible refine rd_neI ?_
  | with_reducible refine rd_rU ?_
  | with_reducible refine rd_name ?_
  | with_reducible refine rd_ifs ?_
  | with_reducible refine rd_and ?_
  | with_reducible refine rd_or ?_
  | with_reducible refine rd_not ?_
  | with_reducible refine rd_yes ?_
  | with_reducible refine rd_andV ?_
  | with_reducible refine rd_orV ?_
  | with_reducible refine rd_notV ?_
  | with_reducible refine rd_if ?_
  | with_reducible refine rd_isN ?_
  | with_reducible refine rd_iT ?_
  | with_reducible refine rd_iF ?_
  | with_reducible refine rd_ret ?_
  | with_reducible refine rd_retN ?_
  | with_reducible refine rd_drop ?_
  | with_reducible refine rd_next ?_
  | with_reducible refine rd_cont ?_
  | with_reducible refine rd_brk ?_
  | with_reducible refine rd_nx ?_
  | with_reducible refine rd_rt ?_
  | with_reducible refine rd_ct ?_
  | with_reducible refine rd_bk ?_
  | with_reducible refine rd_par ?_
  | with_reducible refine rd_par3 ?_
  | with_reducible refine rd_par2 ?_
  | with_reducible refine rd_par33 ?_
  | with_reducible refine rd_gcons ?_
  | with_reducible refine rd_gnil ?_
  | with_reducible refine rd_sub ?_
  | with_reducible refine rd_tup ?_
  | with_reducible refine rd_lst ?_
  | ((with_reducible refine rd_tupT ?hl ?_); (case hl => exact Nat.le_of_ble_eq_true rfl))
  | ((with_reducible refine rd_lstT ?hl ?_); (case hl => exact Nat.le_of_ble_eq_true rfl))
  | with_reducible refine rd_bm ?_
  | with_reducible refine rd_bm0 ?_
  | with_reducible refine rd_sl ?_
  | with_reducible refine rd_noP ?_
  | with_reducible refine rd_part ?_
  | with_reducible refine rd_int ?_
  | with_reducible refine rd_int1 ?_
  | with_reducible refine rd_fld ?_
  | with_reducible refine rd_then ?_
  | with_reducible refine rd_raise ?_
  | with_reducible refine rd_one ?_
  | with_reducible refine rd_sfld ?_
  | with_reducible refine rd_ilist ?_
  | with_reducible refine rd_itup ?_
  | with_reducible refine rd_rng1 ?_
  | with_reducible refine rd_enum ?_
  | with_reducible refine rd_enumT ?_)
local macro_rules | `(tactic| walk_at "rd") => `(tactic| repeat (walk_at "rd1"))
theorem Deal.new {H : Hp} {p q a : Addr} {o : HO} (d : Deal H p q) (n : H a = none) : Deal (upd H a o) p q ∧ a ≠ p ∧ a ≠ q := by
  obtain ⟨ns, b, d⟩ := d
  exact ⟨⟨ns, b, DealAt.new d n⟩, (fun z => by have h := d.hp; rw [← z, n] at h; cases h), (fun z => by have h := d.hq; rw [← z, n] at h; cases h)⟩
theorem Deal.off {H : Hp} {p q a : Addr} {o : HO} (d : Deal H p q) (h1 : a ≠ p) (h2 : a ≠ q) : Deal (upd H a o) p q := by
  obtain ⟨ns, b, d⟩ := d
  exact ⟨ns, b, by rw [upd_ne (Ne.symm h1)]; exact d.hp, by rw [upd_ne (Ne.symm h2)]; exact d.hq, d.ne, d.nn, d.len, d.b0, d.b1⟩
theorem Fix.upd {p q D : Addr} {H H' : Hp} {o : HO} (f : Fix p q H H') (n : H D = none) : Fix p q H (L2.upd H' D o) := fun c u h1 h2 h => by
  rw [upd_ne (fun z => by rw [z, n] at h; cases h)]
  exact f c u h1 h2 h
theorem Fix.keep {H H' : Hp} {p q a : Addr} {o : HO} (f : Fix p q H H') (d : Deal H p q) (h : H a = some o) (n : ∀ xs, o ≠ .lst xs) : H' a = some o := by
  obtain ⟨ns, b, d⟩ := d
  refine f a o (fun e => ?_) (fun e => ?_) h
  · rw [e, d.hp] at h; exact n _ (Option.some.inj h).symm
  · rw [e, d.hq] at h; exact n _ (Option.some.inj h).symm
theorem Fix.free {H H' : Hp} {p q a : Addr} (f : Fix p q H H') (d : Deal H' p q) (h : H' a = none) : H a = none := by
  cases e : H a with
  | none => rfl
  | some o =>
    obtain ⟨ns, b, d⟩ := d
    by_cases h1 : a = p
    · rw [h1, d.hp] at h; cases h
    · by_cases h2 : a = q
      · rw [h2, d.hq] at h; cases h
      · rw [f a o h1 h2 e] at h; cases h
theorem map_erase {α β : Type} (f : α → β) : ∀ (l : List α) (i : Nat), (l.map f).eraseIdx i = (l.eraseIdx i).map f
  | [], _ => rfl
  | x :: l, 0 => rfl
  | x :: l, i + 1 => by
    show f x :: (l.map f).eraseIdx i = f x :: (l.eraseIdx i).map f
    rw [map_erase f l i]
theorem erase_perm {α : Type} : ∀ (l : List α) (i : Nat) (h : i < l.length), (l[i] :: l.eraseIdx i).Perm l
  | x :: l, 0, _ => List.Perm.refl _
  | x :: l, i + 1, h => by
    have h' : i < l.length := by simpa using h
    show (l[i] :: x :: l.eraseIdx i).Perm (x :: l)
    exact (List.Perm.swap x l[i] (l.eraseIdx i)).trans ((erase_perm l i h').cons x)
theorem seqIx {i : Int} {n : Nat} (h0 : 0 ≤ i) (h1 : i < n) : seqIndex? i n = some i.toNat := by
  have h : ixN n i = some i.toNat := by
    unfold ixN
    rw [if_pos h0]
    first
      | (rw [if_pos (by omega)])
      | (split <;> first | rfl | omega)
  exact (ixN_seq h).1
theorem Deal.nes {H : Hp} {p q a : Addr} (d : Deal H p q) (n : H a = none) : a ≠ p ∧ a ≠ q := by
  obtain ⟨ns, b, d⟩ := d
  exact ⟨(fun z => by have h := d.hp; rw [← z, n] at h; cases h), (fun z => by have h := d.hq; rw [← z, n] at h; cases h)⟩
/-! ### sorted pairs -/
def pairO : Option HO → Int × Int
  | some (.tup [.int a, .int b]) => (a, b)
  | _ => (0, 0)
def keyOf (H : Hp) : V → Int × Int
  | .ref t => pairO (H t)
  | _ => (0, 0)
theorem keyOf_at {H : Hp} {t : Addr} {e : Int × Int} (h : PairAt H t e) : keyOf H (.ref t) = e := by
  show pairO (H t) = e
  have h : H t = _ := h
  rw [h]; rfl
def addrOf : V → Addr
  | .ref t => t
  | _ => 0
theorem rd_sortedP {K : PySem.W.Frag} {H : Hp} {Q : VK} {a : Addr} {ps : List Addr} {L : List (Int × Int)} (ha : H a = some (.lst (ps.map V.ref))) (hp : Paired (PairAt H) ps L) (nd : L.Nodup)
    (h : ∀ (qs : List Addr) (L' : List (Int × Int)), L'.Perm L → L'.Pairwise lexlt → Paired (PairAt H) qs L' → NewO H (.lst (qs.map V.ref)) Q) : rSortedPO K [.ref a] H Q := by
  have mem : ∀ x ∈ ps.map V.ref, ∃ t, x = V.ref t ∧ PairAt H t (keyOf H x) := fun x hx => by
    obtain ⟨t, ht, rfl⟩ := List.mem_map.mp hx
    obtain ⟨i, hi⟩ := List.getElem?_of_mem ht
    obtain ⟨e, _, he⟩ := paired_get hp hi
    exact ⟨t, rfl, by rw [keyOf_at he]; exact he⟩
  have keys : (ps.map V.ref).map (keyOf H) = L := by
    clear ha h nd mem
    induction hp with
    | nil => rfl
    | cons x _ ih => rw [List.map_cons, List.map_cons, ih, keyOf_at x]
  refine ⟨a, _, keyOf H, rfl, SqL.of ha, fun x hx => mem x hx, fun ys p srt stb hpn => ?_⟩
  have my : ∀ y ∈ ys, ∃ t, y = V.ref t ∧ PairAt H t (keyOf H y) := fun y hy => mem y (stb.perm.mem_iff.mp hy)
  have ey : (ys.map addrOf).map V.ref = ys := by
    clear stb srt
    induction ys with
    | nil => rfl
    | cons y ys ih =>
      obtain ⟨t, rfl, _⟩ := my y List.mem_cons_self
      rw [List.map_cons, List.map_cons, ih fun z hz => my z (List.mem_cons_of_mem _ hz)]
      rfl
  have py : Paired (PairAt H) (ys.map addrOf) (ys.map (keyOf H)) := by
    clear stb srt ey
    induction ys with
    | nil => exact .nil
    | cons y ys ih =>
      obtain ⟨t, rfl, ht⟩ := my y List.mem_cons_self
      exact .cons ht (ih fun z hz => my z (List.mem_cons_of_mem _ hz))
  have pm : (ys.map (keyOf H)).Perm L := by rw [← keys]; exact stb.perm.map _
  have lx : (ys.map (keyOf H)).Pairwise lexlt := by
    have ndy : (ys.map (keyOf H)).Pairwise (· ≠ ·) := pm.nodup_iff.mpr nd
    have s1 : (ys.map (keyOf H)).Pairwise fun e f => SrtO.lexB f e = false := List.pairwise_map.mpr srt
    exact (s1.and ndy).imp fun {e f} ⟨h1, h2⟩ => by
      have h3 := SrtO.lexB_no.mp h1
      obtain ⟨e1, e2⟩ := e
      obtain ⟨f1, f2⟩ := f
      have h4 : ¬ (e1 = f1 ∧ e2 = f2) := fun ⟨a, b⟩ => h2 (by rw [a, b])
      unfold lexlt
      simp only at h3 ⊢
      omega
  have := new_of (h (ys.map addrOf) (ys.map (keyOf H)) pm lx py) p hpn
  rw [ey] at this
  exact this
/-! ### what _law_links tells, by its form -/
def stepsOf (f n : Int) : List Int := if f = 0 then [1] else if f = 1 then [1] else if f = 2 then [1, 2] else if f = 3 then [1, n / 2] else []
def pairOf (a b : Int) : Int × Int := (if b < a then b else a, if b > a then b else a)
def stepC (n one : Int) (L : List (Int × Int)) (step : Int) : List (Int × Int) :=
  if one = (one + step) % n then L else if pairOf one ((one + step) % n) ∈ L then L else L ++ [pairOf one ((one + step) % n)]
def circ (n : Int) (steps : List Int) (i : Nat) : List (Int × Int) := (List.range i).foldl (fun L one => steps.foldl (stepC n (one : Nat)) L) []
def goodB (n d : Nat) (L : List (Int × Int)) : Bool :=
  L.all (fun e => decide (0 ≤ e.1) && (decide (e.1 < e.2) && decide (e.2 < (n : Int)))) && (decide L.Nodup && (List.range n).all fun s => decide ((L.filter (inc (s : Int))).length ≤ d))
theorem goodB_ok {n d : Nat} {L : List (Int × Int)} (h : goodB n d L = true) : Good n d L := by
  unfold goodB at h
  rw [Bool.and_eq_true, Bool.and_eq_true] at h
  obtain ⟨h1, h2, h3⟩ := h
  have rng : ∀ e ∈ L, 0 ≤ e.1 ∧ e.1 < e.2 ∧ e.2 < n := fun e he => by
    have := List.all_eq_true.mp h1 e he
    simpa using this
  refine ⟨rng, of_decide_eq_true h2, fun s => ?_⟩
  by_cases hs : 0 ≤ s ∧ s < n
  · have := List.all_eq_true.mp h3 s.toNat (List.mem_range.mpr (by omega))
    have e : ((s.toNat : Nat) : Int) = s := by omega
    rw [e] at this
    exact of_decide_eq_true this
  · have : L.filter (inc s) = [] := List.filter_eq_nil_iff.mpr fun e he => by
      obtain ⟨a, b, c⟩ := rng e he
      unfold inc
      simp
      omega
    rw [this]; exact Nat.zero_le _
theorem circ_good : ∀ n : Nat, 1 ≤ n → n < 10 → ∀ f : Nat, f < 4 → goodB n 4 (circ n (stepsOf f n) n) = true := by
  have h : ((List.range 10).all fun n => (List.range 4).all fun f => n == 0 || goodB n 4 (circ n (stepsOf f n) n)) = true := by decide +kernel
  intro n h1 h2 f hf
  have a := List.all_eq_true.mp h n (List.mem_range.mpr h2)
  have b := List.all_eq_true.mp a f (List.mem_range.mpr hf)
  have z : (n == 0) = false := by simp; omega
  rw [z, Bool.false_or] at b
  exact b
end K69

namespace K69
open PySem PySem.Spec PyProof.Rows L2 KX
theorem rd_for {wi : TI} {g : TG} {tb : TS} {D : Ends} {σ : L2.St} {H : Hp} (h : wi σ H fun J H1 => ∃ W : Nat → Nat → L2.St → Hp → Prop, (∃ m, W 0 m σ H1) ∧ ∀ i m σ H, W i m σ H →
    (J.stop i H ∧ D.nx σ H) ∨ (J.go i H ∧ ∃ N : L2.St → Hp → Prop, (∀ σ' H', N σ' H' → ∃ m', m' < m ∧ W (i + 1) m' σ' H') ∧ ∀ x H', J.yld i H x H' → g x σ H' fun σ2 H2 => tb { D with nx := N, ct := N, bk := D.nx } σ2 H2)) : tFor wi g tb D σ H := h
theorem rd_lc {wi : TI} {g : TG} {tt : TT} {te : TE} {vs : List Nat} {σ : L2.St} {H : Hp} {Q : VK} (h : wi σ H fun J H1 => ∀ D, H1 D = none → ∃ W : Nat → Nat → Hp → Prop, (∃ m, W 0 m (upd H1 D (.lst []))) ∧ ∀ i m H, W i m H →
    (J.stop i H ∧ Q (.ref D) H) ∨ (J.go i H ∧ ∃ Nx : Hp → Prop, (∀ H', Nx H' → ∃ m', m' < m ∧ W (i + 1) m' H') ∧ ∀ x H', J.yld i H x H' → g x (wipe σ vs) H' fun σ2 H2 => wipe σ2 vs = wipe σ vs ∧ tt σ2 H2 fun b H3 =>
      if b = true then te σ2 H3 fun y H4 => ∃ acc, H4 D = some (.lst acc) ∧ acc.length < sizeLine ∧ Nx (upd H4 D (.lst (acc ++ [y]))) else Nx H3)) : tLc wi g tt te vs σ H Q := h
local macro_rules | `(tactic| walk_at "rd1") => `(tactic| first
  | with_reducible refine rd_seq ?_
  | with_reducible refine rd_for ?_
  | with_reducible refine rd_lc ?_
  | with_reducible refine rd_asg ?_
  | ((with_reducible refine' rd_var ?rdv ?_); (case rdv => exact rfl))
  | with_reducible refine rd_c ?_
  | with_reducible refine rd_op ?_
  | with_reducible refine rd_un ?_
  | with_reducible refine rd_cons ?_
  | with_reducible refine rd_nil ?_
  | with_reducible refine rd_call ?_
  | with_reducible refine rd_cb ?_
  | with_reducible refine rd_tB ?_
  | with_reducible refine rd_test ?_
  | with_reducible refine rd_bl ?_
  | with_reducible refine rd_rI0 ?_
  | with_reducible refine rd_eqI ?_
  | with_reducible refine rd_neI ?_
  | with_reducible refine rd_rU ?_
  | with_reducible refine rd_name ?_
  | with_reducible refine rd_ifs ?_
  | with_reducible refine rd_and ?_
  | with_reducible refine rd_or ?_
  | with_reducible refine rd_not ?_
  | with_reducible refine rd_yes ?_
  | with_reducible refine rd_andV ?_
  | with_reducible refine rd_orV ?_
  | with_reducible refine rd_notV ?_
  | with_reducible refine rd_if ?_
  | with_reducible refine rd_isN ?_
  | with_reducible refine rd_iT ?_
  | with_reducible refine rd_iF ?_
  | with_reducible refine rd_ret ?_
  | with_reducible refine rd_retN ?_
  | with_reducible refine rd_drop ?_
  | with_reducible refine rd_next ?_
  | with_reducible refine rd_cont ?_
  | with_reducible refine rd_brk ?_
  | with_reducible refine rd_nx ?_
  | with_reducible refine rd_rt ?_
  | with_reducible refine rd_ct ?_
  | with_reducible refine rd_bk ?_
  | with_reducible refine rd_par ?_
  | with_reducible refine rd_par3 ?_
  | with_reducible refine rd_par2 ?_
  | with_reducible refine rd_par33 ?_
  | with_reducible refine rd_gcons ?_
  | with_reducible refine rd_gnil ?_
  | with_reducible refine rd_sub ?_
  | with_reducible refine rd_tup ?_
  | with_reducible refine rd_lst ?_
  | ((with_reducible refine rd_tupT ?hl ?_); (case hl => exact Nat.le_of_ble_eq_true rfl))
  | ((with_reducible refine rd_lstT ?hl ?_); (case hl => exact Nat.le_of_ble_eq_true rfl))
  | with_reducible refine rd_bm ?_
  | with_reducible refine rd_bm0 ?_
  | with_reducible refine rd_sl ?_
  | with_reducible refine rd_noP ?_
  | with_reducible refine rd_part ?_
  | with_reducible refine rd_int ?_
  | with_reducible refine rd_int1 ?_
  | with_reducible refine rd_fld ?_
  | with_reducible refine rd_then ?_
  | with_reducible refine rd_raise ?_
  | with_reducible refine rd_one ?_
  | with_reducible refine rd_sfld ?_
  | with_reducible refine rd_ilist ?_
  | with_reducible refine rd_itup ?_
  | with_reducible refine rd_rng1 ?_
  | with_reducible refine rd_enum ?_
  | with_reducible refine rd_enumT ?_)
local macro_rules | `(tactic| walk_at "rd") => `(tactic| repeat (walk_at "rd1"))
/-- the list of links under way -/
def LkInv (p q l : Addr) (H H' : Hp) (L : List (Int × Int)) : Prop := Deal H' p q ∧ Fix p q H H' ∧ ∃ ps : List Addr, H' l = some (.lst (ps.map V.ref)) ∧ Paired (PairAt H') ps L
theorem pairs_same {H H' : Hp} {ps : List Addr} {L : List (Int × Int)} (h : Paired (PairAt H) ps L) (s : Same H H') : Paired (PairAt H') ps L := paired_mono h fun _ _ z => s _ _ z
theorem pairs_upd {H : Hp} {l : Addr} {xs ys : List V} {ps : List Addr} {L : List (Int × Int)} (h : Paired (PairAt H) ps L) (hl : H l = some (.lst xs)) : Paired (PairAt (upd H l (.lst ys))) ps L :=
  paired_mono h fun a b z => by
    have z : H a = some _ := z
    show upd H l _ a = some _
    rw [upd_ne (fun e => by rw [e, hl] at z; cases z)]
    exact z
theorem pairs_snoc {H : Hp} {t : Addr} {e : Int × Int} : ∀ {ps : List Addr} {L : List (Int × Int)}, Paired (PairAt H) ps L → PairAt H t e → Paired (PairAt H) (ps ++ [t]) (L ++ [e]) := fun h a => by
  induction h with
  | nil => exact .cons a .nil
  | cons x _ ih => exact .cons x ih
theorem LkInv.same {p q l : Addr} {H H1 H2 : Hp} {L : List (Int × Int)} (h : LkInv p q l H H1 L) (s : Same H1 H2) : LkInv p q l H H2 L := by
  obtain ⟨d, f, ps, h1, h2⟩ := h
  exact ⟨d.same s, f.trans (Fix.same s), ps, s _ _ h1, pairs_same h2 s⟩
theorem LkInv.fix {p q l : Addr} {H H1 H2 : Hp} {L : List (Int × Int)} (h : LkInv p q l H H1 L) (lp : l ≠ p) (lq : l ≠ q) (d : Deal H2 p q) (s : Fix p q H1 H2) : LkInv p q l H H2 L := by
  obtain ⟨d1, f, ps, h1, h2⟩ := h
  exact ⟨d, f.trans s, ps, s _ _ lp lq h1, paired_mono h2 fun a b z => Fix.keep s d1 z (fun _ e => by cases e)⟩
theorem LkInv.app {p q l t : Addr} {H H1 : Hp} {L : List (Int × Int)} {e : Int × Int} (h : LkInv p q l H H1 L) (lp : l ≠ p) (lq : l ≠ q) (l0 : H l = none) (ht : PairAt H1 t e) :
    ∃ xs, H1 l = some (.lst xs) ∧ xs.length = L.length ∧ LkInv p q l H (upd H1 l (.lst (xs ++ [.ref t]))) (L ++ [e]) := by
  obtain ⟨d, f, ps, h1, h2⟩ := h
  refine ⟨_, h1, by rw [List.length_map, paired_len h2], d.off lp lq, f.upd l0, ps ++ [t], by rw [upd_same]; simp, ?_⟩
  exact pairs_upd (pairs_snoc h2 ht) h1
theorem rd_notInP {K : PySem.W.Frag} {H : Hp} {t l : Addr} {e : Int × Int} {ps : List Addr} {L : List (Int × Int)} {Q : VK} (ht : PairAt H t e) (hl : H l = some (.lst (ps.map V.ref))) (hp : Paired (PairAt H) ps L)
    (h : Q (.bl (!decide (e ∈ L))) H) : rNotInD K (.ref t) (.ref l) H Q :=
  ⟨dP e, L.map dP, dp_pair ht, .lst (SqL.of hl) (dp_pairs hp), dP_sh1 e, dP_shL L, by rw [dP_any]; exact h⟩
theorem stepC_len (n one : Int) (L : List (Int × Int)) (s : Int) : (stepC n one L s).length ≤ L.length + 1 := by
  unfold stepC
  split
  · omega
  · split
    · omega
    · simp
theorem fold_snoc {α β : Type} (f : α → β → α) (a : α) (l : List β) (i : Nat) (x : β) (h : l[i]? = some x) : (l.take (i + 1)).foldl f a = f ((l.take i).foldl f a) x := by
  rw [List.take_succ, h]
  simp [List.foldl_append]
theorem circ_succ (n : Int) (steps : List Int) (i : Nat) : circ n steps (i + 1) = steps.foldl (stepC n (i : Nat)) (circ n steps i) := by
  unfold circ
  rw [List.range_succ, List.foldl_append]
  rfl
theorem circ_nil (n : Int) : ∀ i, circ n [] i = []
  | 0 => rfl
  | i + 1 => by rw [circ_succ, circ_nil n i]; rfl
theorem fold_len (n one : Int) : ∀ (steps : List Int) (L : List (Int × Int)), (steps.foldl (stepC n one) L).length ≤ L.length + steps.length
  | [], L => Nat.le_refl _
  | s :: ss, L => by
    have h1 := fold_len n one ss (stepC n one L s)
    have h2 := stepC_len n one L s
    simp only [List.foldl_cons, List.length_cons]
    omega
theorem circ_len (n : Int) (steps : List Int) (hs : steps.length ≤ 2) : ∀ i, (circ n steps i).length ≤ 2 * i
  | 0 => Nat.le_refl _
  | i + 1 => by
    rw [circ_succ]
    have h1 := circ_len n steps hs i
    have h2 := fold_len n (i : Nat) steps (circ n steps i)
    omega
theorem steps_len (f n : Int) : (stepsOf f n).length ≤ 2 := by
  unfold stepsOf
  split
  · decide
  · split
    · decide
    · split
      · decide
      · split
        · simp
        · decide
theorem inc_in (s : Int) (e : Int × Int) : decide (s ∈ [e.1, e.2]) = inc s e := by
  unfold inc
  by_cases h1 : e.1 = s
  · simp [h1]
  · by_cases h2 : e.2 = s
    · simp [h2]
    · have h1' : ¬ s = e.1 := fun z => h1 z.symm
      have h2' : ¬ s = e.2 := fun z => h2 z.symm
      simp [h1, h2, h1', h2']
/-- links drawn one by one: the greater site first, then the lesser one -/
structure Bf (o i : Nat) (L : List (Int × Int)) : Prop where
  rng : ∀ e ∈ L, 0 ≤ e.1 ∧ e.1 < e.2 ∧ (e.2 < o ∨ e.2 = o ∧ e.1 < i)
  nd : L.Nodup
  deg : ∀ s : Int, (L.filter (inc s)).length ≤ 4
  len : L.length ≤ 10 * o + i
theorem Bf.skip {o i : Nat} {L : List (Int × Int)} (h : Bf o i L) : Bf o (i + 1) L :=
  ⟨fun e he => by have := h.rng e he; omega, h.nd, h.deg, by have := h.len; omega⟩
theorem Bf.next {o : Nat} {L : List (Int × Int)} (h : Bf o o L) (ho : o < 10) : Bf (o + 1) 0 L :=
  ⟨fun e he => by have := h.rng e he; omega, h.nd, h.deg, by have := h.len; omega⟩
theorem Bf.app {o i : Nat} {L : List (Int × Int)} (h : Bf o i L) (hi : i < o) (d1 : (L.filter (inc (i : Nat))).length < 4) (d2 : (L.filter (inc (o : Nat))).length < 4) : Bf o (i + 1) (L ++ [(((i : Nat) : Int), ((o : Nat) : Int))]) := by
  refine ⟨fun e he => ?_, ?_, fun s => ?_, by have := h.len; simp; omega⟩
  · rcases List.mem_append.mp he with z | z
    · have := h.rng e z; omega
    · rw [List.mem_singleton.mp z]
      show (0 : Int) ≤ (i : Nat) ∧ ((i : Nat) : Int) < (o : Nat) ∧ _
      omega
  · refine List.nodup_append.mpr ⟨h.nd, by simp, fun a ha b hb => ?_⟩
    rw [List.mem_singleton.mp hb]
    intro z
    have := h.rng a ha
    rw [z] at this
    simp at this
  · rw [List.filter_append, List.length_append]
    have h1 := h.deg s
    by_cases c1 : ((i : Nat) : Int) = s
    · rw [← c1]
      have : ([(((i : Nat) : Int), ((o : Nat) : Int))].filter (inc ((i : Nat) : Int))).length ≤ 1 := List.length_filter_le _ _
      omega
    · by_cases c2 : ((o : Nat) : Int) = s
      · rw [← c2]
        have : ([(((i : Nat) : Int), ((o : Nat) : Int))].filter (inc ((o : Nat) : Int))).length ≤ 1 := List.length_filter_le _ _
        omega
      · have : [(((i : Nat) : Int), ((o : Nat) : Int))].filter (inc s) = [] := by
          simp [inc, c1, c2]
        rw [this]; simpa using h1
theorem Bf.good {n : Nat} {L : List (Int × Int)} (h : Bf n 0 L) : Good n 4 L :=
  ⟨fun e he => by have := h.rng e he; omega, h.nd, h.deg⟩
theorem Good.perm {n d : Nat} {L M : List (Int × Int)} (h : Good n d L) (p : M.Perm L) : Good n d M :=
  ⟨fun e he => h.rng e (p.mem_iff.mp he), p.nodup_iff.mpr h.nd, fun s => by rw [perm_filter_len p (inc s)]; exact h.deg s⟩
def spLk : Sp := fun vs H Q _ => ∃ (p q : Addr) (n : Nat), vs = [.ref p, .int (n : Nat)] ∧ Deal H p q ∧ 1 ≤ n ∧ n < 10 ∧
  ∀ (H' : Hp) (l : Addr) (ps : List Addr) (L : List (Int × Int)), Deal H' p q → Fix p q H H' → H l = none → l ≠ p → l ≠ q → H' l = some (.lst (ps.map V.ref)) → Paired (PairAt H') ps L → Good n 4 L → L.Pairwise lexlt → Q (.ref l) H'
section
variable {P : Program} {w : World} {K : PySem.W.Frag} {mg : Str → Option Value} {base : Heap} (T : TX K mg)
theorem G__law_links : FnOk P w K mg base CX0 2 T.f__law_links T.d__law_links ["deal", "many"] spLk := by
  refine T.F__law_links.ok sc__law_links (fun vs H Q E h => ?_) fun cdv A outer s H vs Q E hr h => ⟨_, (pss_cons (ps_asg (pe_tup (pa_cons (pe_call (G__law_any T) (hr.mono (by decide)) (by rfl) T.m__law_any T.F__law_any.kp T.b__law_any .nil pass0 (by exact (pa_cons (pv 0) (pa_cons pe_int pa_nil)))) (pa_cons (pe_lst pa_nil) (pa_cons (pe_op op_add pe_int (pe_call (G__law_any T) (hr.mono (by decide)) (by rfl) T.m__law_any T.F__law_any.kp T.b__law_any .nil pass0 (by exact (pa_cons (pv 0) (pa_cons pe_int pa_nil))))) pa_nil)))) (pg_tupK (K := K) (n := 3) (by rfl) (pgs_cons (pg_name (i := 2) sc__law_links.nd rfl (.inl rfl)) (pgs_cons (pg_name (i := 3) sc__law_links.nd rfl (.inr rfl)) (pgs_cons (pg_name (i := 4) sc__law_links.nd rfl (.inl rfl)) pgs_nil))))) (pss_cons (ps_set (i := 5) sc__law_links.nd rfl (.inl rfl) (pe_ix (ix_listK (K := K)) (pe_lst (pa_cons (pe_lst (pa_cons pe_int pa_nil)) (pa_cons (pe_lst (pa_cons pe_int pa_nil)) (pa_cons (pe_lst (pa_cons pe_int (pa_cons pe_int pa_nil))) (pa_cons (pe_lst (pa_cons pe_int (pa_cons (pe_op op_fdiv (pv 1) pe_int) pa_nil))) (pa_cons (pe_lst pa_nil) (pa_cons (pe_lst pa_nil) pa_nil))))))) (pv 2) (fun _ _ => rfl))) (pss_cons (ps_for PassesOwn.never rfl (pi_range1 (by rfl) T.n_range (by exact (pa_cons (pv 1) pa_nil))) (pg_name (i := 6) sc__law_links.nd rfl (.inl rfl)) (pss_one (ps_for PassesOwn.never rfl (pi_listK (K := K) (pv 5)) (pg_name (i := 7) sc__law_links.nd rfl (.inl rfl)) (pss_cons (ps_set (i := 8) sc__law_links.nd rfl (.inl rfl) (pe_op op_mod (pe_callTy call_int1 (by rfl) T.n_int (by decide +kernel) (by exact (pa_cons (pe_op op_add (pv 6) (pv 7)) pa_nil))) (pv 1))) (pss_one (ps_if (PW.pt (pw_and (pt_cmpR op_ne (pv 6) (pv 8) (nomark _)) (pw_and1 (pt_cmpR (op_notInDK (K := K) (KX.Room.u65 hr)) (pe_tup (pa_cons (pe_callB (call_min2 rfl) (by rfl) T.n_min (by decide +kernel) (by exact (pa_cons (pv 6) (pa_cons (pv 8) pa_nil)))) (pa_cons (pe_callB (call_max2 rfl) (by rfl) T.n_max (by decide +kernel) (by exact (pa_cons (pv 6) (pa_cons (pv 8) pa_nil)))) pa_nil))) (pv 3) (by rfl))))) (pss_one (ps_expr (pe_bmK (K := K) PySem.F.slot_list_append PySem.F.type_list_append mt_append (pv 3) (by exact (pa_cons (pe_tup (pa_cons (pe_callB (call_min2 rfl) (by rfl) T.n_min (by decide +kernel) (by exact (pa_cons (pv 6) (pa_cons (pv 8) pa_nil)))) (pa_cons (pe_callB (call_max2 rfl) (by rfl) T.n_max (by decide +kernel) (by exact (pa_cons (pv 6) (pa_cons (pv 8) pa_nil)))) pa_nil))) pa_nil))))) pss_nil)))))) (pss_cons (ps_if (pt_cmpR op_gt (pv 2) pe_int (nomark _)) (pss_one (ps_for PassesOwn.never rfl (pi_range1 (by rfl) T.n_range (by exact (pa_cons (pv 1) pa_nil))) (pg_name (i := 8) sc__law_links.nd rfl (.inl rfl)) (pss_one (ps_for PassesOwn.never rfl (pi_range1 (by rfl) T.n_range (by exact (pa_cons (pv 8) pa_nil))) (pg_name (i := 6) sc__law_links.nd rfl (.inl rfl)) (pss_cons (ps_setLc (i := 9) (own := [("site", 10)]) (by rfl) sc__law_links.nd rfl rfl (sw_true rfl rfl rfl (by decide +kernel)) (pi_tupK (K := K) (pe_tup (pa_cons (pv 6) (pa_cons (pv 8) pa_nil)))) (blkOk_by (own := [("site", 10)]) (N := N__law_links) (sc := defScope s__law_links) (by decide +kernel)) (fun _ _ _ _ _ => (pg_name (i := 10) sc__law_links.nd rfl (.inr rfl))) (fun _ _ _ _ _ => pts_nil) (fun _ _ _ _ _ => (pe_callB (cr_lenK (K := K)) (by rfl) T.n_len (by decide +kernel) (by exact (pa_cons (by exact (pe_lc (own := [("link", 11)]) (by rfl) sc__law_links.nd (pi_listK (K := K) (pv 3)) (blkOk_by (own := [("link", 11)]) (N := N__law_links) (sc := ({ kind := PySem.ScopeKind.function, names := [(PySem.Str.ofString ".0", PySem.NameKind.local), (PySem.Str.ofString "site", PySem.NameKind.cell), (PySem.Str.ofString "len", PySem.NameKind.globalImplicit), (PySem.Str.ofString "links", PySem.NameKind.cell)], isGenerator := false, isCoroutine := false, more := [] } : PySem.Scope)) (by decide +kernel)) (fun _ _ _ _ _ => (pg_name (i := 11) sc__law_links.nd rfl (.inl rfl))) (fun _ _ _ _ _ => pts_one (pt_cmpR (op_inK (K := K)) (pv 10) (pv 11) (by rfl))) (fun _ _ _ _ _ => (pv 11)) )) pa_nil)))) ) (pss_one (ps_if (PW.pt (pw_and (pt_cmpR op_lt (pe_callB (cr_maxK (K := K) rfl) (by rfl) T.n_max (by decide +kernel) (by exact (pa_cons (pv 9) pa_nil))) (pv 4) (nomark _)) (pw_and1 (pt_cmpR op_gt (pe_call (G__law_any T) (hr.mono (by decide)) (by rfl) T.m__law_any T.F__law_any.kp T.b__law_any .nil pass0 (by exact (pa_cons (pv 0) (pa_cons pe_int pa_nil)))) pe_int (nomark _))))) (pss_one (ps_expr (pe_bmK (K := K) PySem.F.slot_list_append PySem.F.type_list_append mt_append (pv 3) (by exact (pa_cons (pe_tup (pa_cons (pv 6) (pa_cons (pv 8) pa_nil))) pa_nil))))) pss_nil))))))) pss_nil) (pss_one (ps_ret (pe_callB (cr_sortedPOK (K := K)) (by rfl) T.n_sorted (by decide +kernel) (by exact (pa_cons (pv 3) pa_nil))))))))), ?_⟩
  · obtain ⟨p, q, n, rfl, _⟩ := h
    rfl
  · obtain ⟨p, q, n, rfl, d, n1, n10, hQ⟩ := h
    walk_at "rd"
    refine ⟨p, q, 6, rfl, d, by decide, by decide, fun H1 f d1 f1 f0 f6 => ?_⟩
    walk_at "rd"
    intro l H2 l0 S2 hl
    have d2 := d1.same S2
    obtain ⟨lp, lq⟩ := d1.nes l0
    have l00 := f1.free d1 l0
    walk_at "rd"
    refine ⟨p, q, 4, rfl, d2, by decide, by decide, fun H3 m d3 f3 m0 m4 => ?_⟩
    have hl3 := f3 _ _ lp lq hl
    have F3 : Fix p q H H3 := f1.trans ((Fix.same S2).trans f3)
    walk_at "rd"
    intro t H4 t0 S4 ht
    refine rd_gtup (Tup.of ht) rfl ?_
    walk_at "rd"
    intro a0 H5 n5 S5 e0
    walk_at "rd"
    intro a1 H6 n6 S6 e1
    walk_at "rd"
    intro a2 H7 n7 S7 e2
    walk_at "rd"
    refine rd_rI ⟨by decide, by decide⟩ ?_
    walk_at "rd"
    intro a3 H8 n8 S8 e3
    walk_at "rd"
    intro a4 H9 n9 S9 e4
    walk_at "rd"
    intro a5 H10 n10' S10 e5
    walk_at "rd"
    intro a6 H11 n11 S11 e6
    have S411 := ((((((S4.trans S5).trans S6).trans S7).trans S8).trans S9).trans S10).trans S11
    have hl11 := S411 _ _ hl3
    obtain ⟨as, hst, has, asl⟩ : ∃ as, atI [V.ref a0, V.ref a1, V.ref a2, V.ref a3, V.ref a4, V.ref a5] f = some (.ref as) ∧ H11 as = some (.lst ((stepsOf f n).map V.int)) ∧ as ≠ l := by
      have hf : f = 0 ∨ f = 1 ∨ f = 2 ∨ f = 3 ∨ f = 4 ∨ f = 5 := by omega
      have h4 := S4 _ _ hl3
      have h5 := S5 _ _ h4
      have h6 := S6 _ _ h5
      have h7 := S7 _ _ h6
      have h8 := S8 _ _ h7
      have h9 := S9 _ _ h8
      rcases hf with rfl | rfl | rfl | rfl | rfl | rfl
      · exact ⟨a0, rfl, (((((S6.trans S7).trans S8).trans S9).trans S10).trans S11) _ _ e0, fun z => by rw [z, h4] at n5; cases n5⟩
      · exact ⟨a1, rfl, ((((S7.trans S8).trans S9).trans S10).trans S11) _ _ e1, fun z => by rw [z, h5] at n6; cases n6⟩
      · exact ⟨a2, rfl, (((S8.trans S9).trans S10).trans S11) _ _ e2, fun z => by rw [z, h6] at n7; cases n7⟩
      · exact ⟨a3, rfl, ((S9.trans S10).trans S11) _ _ e3, fun z => by rw [z, h7] at n8; cases n8⟩
      · exact ⟨a4, rfl, (S10.trans S11) _ _ e4, fun z => by rw [z, h8] at n9; cases n9⟩
      · exact ⟨a5, rfl, S11 _ _ e5, fun z => by rw [z, h9] at n10'; cases n10'⟩
    walk_at "rd"
    refine rd_ixL e6 hst ?_
    walk_at "rd"
    have I0 : LkInv p q l H H11 [] := ⟨d3.same S411, F3.trans (Fix.same S411), [], hl11, .nil⟩
    generalize hsp : stepsOf f n = sp at has
    have spl : sp.length ≤ 2 := by rw [← hsp]; exact steps_len f n
    refine ⟨by omega, by omega, ?_⟩
    refine for_range (lo := 0) (n := n) (fun i σ H' => (∃ o6 o7 o8 o9 o10 o11, σ = [some (.ref p), some (.int (n : Nat)), some (.int f), some (.ref l), some (.int (1 + m)), some (.ref as), o6, o7, o8, o9, o10, o11]) ∧
      LkInv p q l H H' (circ n sp i) ∧ H' as = some (.lst (sp.map V.int))) ⟨⟨_, _, _, _, _, _, rfl⟩, I0, has⟩ (fun i σ H' hi pv => ?_) (fun σ H' pv => ?_)
    · obtain ⟨⟨o6, o7, o8, o9, o10, o11, rfl⟩, I, ha⟩ := pv
      walk_at "rd"
      refine ⟨as, rfl, ⟨_, SqL.of ha⟩, ?_⟩
      refine for_list (xs := sp.map V.int) (fun j σ H' => (∃ o7 o8 o9 o10 o11, σ = [some (.ref p), some (.int (n : Nat)), some (.int f), some (.ref l), some (.int (1 + m)), some (.ref as), some (.int (0 + (i : Nat))), o7, o8, o9, o10, o11]) ∧
        LkInv p q l H H' ((sp.take j).foldl (stepC n (i : Nat)) (circ n sp i)) ∧ H' as = some (.lst (sp.map V.int))) ⟨⟨_, _, _, _, _, rfl⟩, I, ha⟩ (fun j σ H' _ pv => SqL.of pv.2.2) (fun j x σ H' hx pv => ?_) (fun σ H' pv => ?_)
      · obtain ⟨⟨o7, o8, o9, o10, o11, rfl⟩, I, ha⟩ := pv
        rw [List.getElem?_map] at hx
        obtain ⟨st, hs, rfl⟩ := Option.map_eq_some_iff.mp hx
        rw [fold_snoc _ _ _ _ _ hs]
        have lL : ((sp.take j).foldl (stepC n (i : Nat)) (circ n sp i)).length ≤ 100 := by
          have h1 := fold_len n (i : Nat) (sp.take j) (circ n sp i)
          have h2 := circ_len n sp spl i
          have h3 : (sp.take j).length ≤ sp.length := by rw [List.length_take]; omega
          omega
        generalize (sp.take j).foldl (stepC n (i : Nat)) (circ n sp i) = L at I lL
        walk_at "rd"
        refine .inl ⟨_, rfl, ?_⟩
        walk_at "rd"
        refine rd_rI (by omega) ?_
        have z0 : (0 : Int) + (i : Nat) = (i : Nat) := by omega
        have zg : ((0 : Int) + (i : Nat) + st) % (n : Nat) = ((i : Nat) + st) % (n : Nat) := by rw [z0]
        rw [zg, z0]
        have zs : stepC (n : Nat) (i : Nat) L st = if ((i : Nat) : Int) = ((i : Nat) + st) % (n : Nat) then L else if pairOf (i : Nat) (((i : Nat) + st) % (n : Nat)) ∈ L then L else L ++ [pairOf (i : Nat) (((i : Nat) + st) % (n : Nat))] := rfl
        rw [zs]
        generalize (((i : Nat) : Int) + st) % (n : Nat) = ot
        walk_at "rd"
        by_cases h1 : ((i : Nat) : Int) = ot
        · rw [if_pos h1]
          refine iteF' (by simp [h1]) ?_
          walk_at "rd"
          exact ⟨⟨_, _, _, _, _, rfl⟩, I, ha⟩
        · rw [if_neg h1]
          refine iteT' (by simp [h1]) ?_
          walk_at "rd"
          refine ⟨_, _, rfl, ?_⟩
          walk_at "rd"
          refine ⟨_, _, rfl, ?_⟩
          walk_at "rd"
          intro u H12 u0 S12 hu
          have hu : PairAt H12 u (pairOf (i : Nat) ot) := hu
          have I12 := I.same S12
          have ha12 := S12 _ _ ha
          obtain ⟨_, _, ps, hps, hpp⟩ := I12
          walk_at "rd"
          refine rd_notInP hu hps hpp ?_
          walk_at "rd"
          by_cases h2 : pairOf (i : Nat) ot ∈ L
          · rw [if_pos h2]
            refine iteF' (by simp [h2]) ?_
            walk_at "rd"
            exact ⟨⟨_, _, _, _, _, rfl⟩, I.same S12, ha12⟩
          · rw [if_neg h2]
            refine iteT' (by simp [h2]) ?_
            walk_at "rd"
            refine rd_ty hps ?_
            walk_at "rd"
            refine ⟨_, _, rfl, ?_⟩
            walk_at "rd"
            refine ⟨_, _, rfl, ?_⟩
            walk_at "rd"
            intro v H13 v0 S13 hv
            have hv : PairAt H13 v (pairOf (i : Nat) ot) := hv
            obtain ⟨xs, hxs, lxs, I13⟩ := ((I.same S12).same S13).app lp lq l00 hv
            walk_at "rd"
            refine rd_app hxs (by omega) ?_
            walk_at "rd"
            refine ⟨⟨_, _, _, _, _, rfl⟩, I13, ?_⟩
            rw [upd_ne asl]
            exact S13 _ _ ha12
      · obtain ⟨⟨o7, o8, o9, o10, o11, rfl⟩, I, ha⟩ := pv
        rw [List.length_map, List.take_length, ← circ_succ] at I
        walk_at "rd"
        exact ⟨⟨_, _, _, _, _, _, rfl⟩, I, ha⟩
    · obtain ⟨⟨o6, o7, o8, o9, o10, o11, rfl⟩, I, ha⟩ := pv
      have fin : ∀ (H' : Hp) (L : List (Int × Int)) (σ : L2.St), σ[3]? = some (some (V.ref l)) → LkInv p q l H H' L → Good n 4 L → tRet (tCB (rSortedPO K) (tCons (tVar 3) tNil)) { nx := fun x H' => Q V.non H', rt := Q } σ H' := fun H' L σ hσ I g => by
        obtain ⟨d', f', ps, hps, hpp⟩ := I
        refine rd_ret (rd_cb (rd_cons (rd_var hσ (rd_nil ?_))))
        refine rd_sortedP hps hpp g.nd fun qs L' pm srt pr => ?_
        intro a H'' a0 S e
        exact hQ H'' a qs L' (d'.same S) (f'.trans (Fix.same S)) (f'.free d' a0) (d'.nes a0).1 (d'.nes a0).2 e (pairs_same pr S) (g.perm pm) srt
      walk_at "rd"
      by_cases h3 : 3 < f
      · refine iteT' (decide_eq_true h3) ?_
        have spn : sp = [] := by
          rw [← hsp]
          have : f = 4 ∨ f = 5 := by omega
          rcases this with rfl | rfl <;> rfl
        rw [spn, circ_nil] at I
        walk_at "rd"
        refine ⟨by omega, by omega, ?_⟩
        refine for_range (lo := 0) (n := n) (fun o σ H' => (∃ o5 o6 o7 o8 o9 o10 o11, σ = [some (.ref p), some (.int (n : Nat)), some (.int f), some (.ref l), some (.int (1 + m)), o5, o6, o7, o8, o9, o10, o11]) ∧
          ∃ L, LkInv p q l H H' L ∧ Bf o 0 L) ⟨⟨_, _, _, _, _, _, _, rfl⟩, [], I, ⟨by simp, List.nodup_nil, by simp, by simp⟩⟩ (fun o σ H' ho pv => ?_) (fun σ H' pv => ?_)
        · obtain ⟨⟨o5, o6, o7, o8, o9, o10, o11, rfl⟩, L, I, B⟩ := pv
          walk_at "rd"
          refine ⟨by omega, by omega, ?_⟩
          have e0 : ((0 : Int) + (o : Nat)).toNat = o := by omega
          rw [e0]
          refine for_range (lo := 0) (n := o) (fun i σ H' => (∃ o5 o6 o7 o9 o10 o11, σ = [some (.ref p), some (.int (n : Nat)), some (.int f), some (.ref l), some (.int (1 + m)), o5, o6, o7, some (.int (0 + (o : Nat))), o9, o10, o11]) ∧
            ∃ L, LkInv p q l H H' L ∧ Bf o i L) ⟨⟨_, _, _, _, _, _, rfl⟩, L, I, B⟩ (fun i σ H' hi pv => ?_) (fun σ H' pv => ?_)
          · obtain ⟨⟨o5, o6, o7, o9, o10, o11, rfl⟩, L, I, B⟩ := pv
            walk_at "rd"
            intro u H12 u0 S12 hu
            have I12 := I.same S12
            refine ⟨u, rfl, ⟨_, SqT.of hu⟩, fun D hD => ?_⟩
            have lL : L.length ≤ 100 := by have := B.len; omega
            have hD' : H' D = none := S12.free hD
            refine lc_tup (xs := [V.int (0 + (i : Nat)), V.int (0 + (o : Nat))]) (fun j H' => Same H12 H' ∧ H' D = some (.lst (([((i : Nat) : Int), ((o : Nat) : Int)].take j).map fun s => V.int ((L.filter (inc s)).length : Nat))))
              ⟨Same.fresh hD, upd_same⟩ (fun j H' _ pv => SqT.of (pv.1 _ _ hu)) (fun j x H13 hx pv => ?_) (fun H13 pv => ?_)
            · obtain ⟨S13, hD13⟩ := pv
              obtain ⟨s, hs, rfl⟩ : ∃ s : Int, [((i : Nat) : Int), ((o : Nat) : Int)][j]? = some s ∧ x = V.int s := by
                match j, hx with
                | 0, hx => simp at hx; exact ⟨_, rfl, by rw [← hx]⟩
                | 1, hx => simp at hx; exact ⟨_, rfl, by rw [← hx]⟩
                | j + 2, hx => simp at hx
              have I13 := I12.same S13
              obtain ⟨_, _, ps, hps, hpp⟩ := I13
              walk_at "rd"
              refine ⟨rfl, ?_⟩
              walk_at "rd"
              refine ⟨l, rfl, ⟨_, SqL.of hps⟩, fun D2 hD2 => ?_⟩
              refine lc_list (xs := ps.map V.ref) (fun k H' => Same H13 H' ∧ ∃ vs, H' D2 = some (.lst vs) ∧ vs.length = ((L.take k).filter (inc s)).length)
                ⟨Same.fresh hD2, [], upd_same, rfl⟩ (fun k H' _ pv => SqL.of (pv.1 _ _ hps)) (fun k x H14 hx pv => ?_) (fun H14 pv => ?_)
              · obtain ⟨S14, vs, hvs, lv⟩ := pv
                rw [List.getElem?_map] at hx
                obtain ⟨t, ht, rfl⟩ := Option.map_eq_some_iff.mp hx
                obtain ⟨e, he, hte⟩ := paired_get hpp ht
                have hte14 : PairAt H14 t e := S14 _ _ hte
                have hfl : ((L.take (k + 1)).filter (inc s)).length = ((L.take k).filter (inc s)).length + if inc s e = true then 1 else 0 := by
                  rw [List.take_succ, he, List.filter_append, List.length_append]
                  congr 1
                  by_cases z : inc s e = true
                  · simp [z]
                  · simp [z]
                walk_at "rd"
                refine ⟨rfl, ?_⟩
                walk_at "rd"
                refine rd_inI (row := [e.1, e.2]) (.inr (SqT.of hte14)) ?_
                walk_at "rd"
                rw [inc_in]
                by_cases z : inc s e = true
                · refine iteT' z ?_
                  rw [if_pos z] at hfl
                  walk_at "rd"
                  refine ⟨vs, hvs, ?_, Same.put S14 hD2, vs ++ [V.ref t], upd_same, by rw [hfl, List.length_append, lv]; rfl⟩
                  have h1 : ((L.take k).filter (inc s)).length ≤ L.length := by
                    have a := List.length_filter_le (inc s) (L.take k)
                    have b : (L.take k).length ≤ L.length := by rw [List.length_take]; omega
                    omega
                  exact Nat.lt_of_le_of_lt (by omega : vs.length ≤ 100) (by decide)
                · refine iteF' (by simpa using z) ?_
                  rw [if_neg z] at hfl
                  exact ⟨S14, vs, hvs, by rw [hfl, lv]; rfl⟩
              · obtain ⟨S14, vs, hvs, lv⟩ := pv
                rw [List.length_map, paired_len hpp, List.take_length] at lv
                walk_at "rd"
                refine rd_len hvs ?_
                refine ⟨_, S14 _ _ hD13, ?_, Same.put (S13.trans S14) hD, ?_⟩
                · rw [List.length_map, List.length_take]
                  exact Nat.lt_of_le_of_lt (Nat.min_le_right _ _) (by show 2 < sizeLine; decide)
                · rw [upd_same, lv]
                  congr 2
                  have : ([((i : Nat) : Int), ((o : Nat) : Int)].take (j + 1)) = ([((i : Nat) : Int), ((o : Nat) : Int)].take j) ++ [s] := by rw [List.take_succ, hs]; rfl
                  rw [this, List.map_append]
                  rfl
            · obtain ⟨S13, hD13⟩ := pv
              have I13 := I12.same S13
              obtain ⟨Dl13, Fx13, _, hl13, _⟩ := id I13
              walk_at "rd"
              refine rd_max (ns := [((L.filter (inc ((i : Nat) : Int))).length : Int), ((L.filter (inc ((o : Nat) : Int))).length : Int)]) hD13 (Nat.zero_lt_succ _) fun mx mm my => ?_
              have y1 := my _ List.mem_cons_self
              have y2 := my _ (List.mem_cons_of_mem _ List.mem_cons_self)
              walk_at "rd"
              by_cases c1 : mx < 1 + m
              · refine iteT' (decide_eq_true c1) ?_
                walk_at "rd"
                refine ⟨p, q, 3, rfl, Dl13, by decide, by decide, fun H14 w' d14 f14 w0 w3 => ?_⟩
                have I14 := I13.fix lp lq d14 f14
                obtain ⟨_, _, _, hl14, _⟩ := id I14
                walk_at "rd"
                by_cases c2 : 0 < w'
                · refine iteT' (decide_eq_true c2) ?_
                  walk_at "rd"
                  refine rd_ty hl14 ?_
                  walk_at "rd"
                  intro v H15 v0 S15 hv
                  have z1 : (0 : Int) + (i : Nat) = (i : Nat) := by omega
                  have z2 : (0 : Int) + (o : Nat) = (o : Nat) := by omega
                  rw [z1, z2] at hv
                  have hv : PairAt H15 v (((i : Nat) : Int), ((o : Nat) : Int)) := hv
                  obtain ⟨xs, hxs, lxs, I15⟩ := (I14.same S15).app lp lq l00 hv
                  walk_at "rd"
                  refine rd_app hxs (by omega) ?_
                  walk_at "rd"
                  exact ⟨⟨_, _, _, _, _, _, rfl⟩, _, I15, B.app hi (by omega) (by omega)⟩
                · refine iteF' (decide_eq_false c2) ?_
                  walk_at "rd"
                  exact ⟨⟨_, _, _, _, _, _, rfl⟩, L, I14, B.skip⟩
              · refine iteF' (decide_eq_false c1) ?_
                walk_at "rd"
                exact ⟨⟨_, _, _, _, _, _, rfl⟩, L, I13, B.skip⟩
          · obtain ⟨⟨o5, o6, o7, o9, o10, o11, rfl⟩, L, I, B⟩ := pv
            exact ⟨⟨_, _, _, _, _, _, _, rfl⟩, L, I, B.next (by omega)⟩
        · obtain ⟨⟨o5, o6, o7, o8, o9, o10, o11, rfl⟩, L, I, B⟩ := pv
          exact fin _ L _ rfl I B.good
      · refine iteF' (decide_eq_false h3) ?_
        walk_at "rd1"
        walk_at "rd1"
        refine fin _ _ _ rfl I ?_
        rw [← hsp]
        have := goodB_ok (circ_good n n1 n10 f.toNat (by omega))
        have e : ((f.toNat : Nat) : Int) = f := by omega
        rwa [e] at this
end
end K69

namespace K69
open PySem PySem.Spec PyProof.Rows L2 KX
local macro_rules | `(tactic| walk_at "rd1") => `(tactic| first
  | with_reducible refine rd_seq ?_
  | with_reducible refine rd_for ?_
  | with_reducible refine rd_lc ?_
  | with_reducible refine rd_asg ?_
  | ((with_reducible refine' rd_var ?rdv ?_); (case rdv => exact rfl))
  | with_reducible refine rd_c ?_
  | with_reducible refine rd_op ?_
  | with_reducible refine rd_un ?_
  | with_reducible refine rd_cons ?_
  | with_reducible refine rd_nil ?_
  | with_reducible refine rd_call ?_
  | with_reducible refine rd_cb ?_
  | with_reducible refine rd_tB ?_
  | with_reducible refine rd_test ?_
  | with_reducible refine rd_bl ?_
  | with_reducible refine rd_rI0 ?_
  | with_reducible refine rd_eqI ?_
  | with_reducible refine rd_neI ?_
  | with_reducible refine rd_rU ?_
  | with_reducible refine rd_name ?_
  | with_reducible refine rd_ifs ?_
  | with_reducible refine rd_and ?_
  | with_reducible refine rd_or ?_
  | with_reducible refine rd_not ?_
  | with_reducible refine rd_yes ?_
  | with_reducible refine rd_andV ?_
  | with_reducible refine rd_orV ?_
  | with_reducible refine rd_notV ?_
  | with_reducible refine rd_if ?_
  | with_reducible refine rd_isN ?_
  | with_reducible refine rd_iT ?_
  | with_reducible refine rd_iF ?_
  | with_reducible refine rd_ret ?_
  | with_reducible refine rd_retN ?_
  | with_reducible refine rd_drop ?_
  | with_reducible refine rd_next ?_
  | with_reducible refine rd_cont ?_
  | with_reducible refine rd_brk ?_
  | with_reducible refine rd_nx ?_
  | with_reducible refine rd_rt ?_
  | with_reducible refine rd_ct ?_
  | with_reducible refine rd_bk ?_
  | with_reducible refine rd_par ?_
  | with_reducible refine rd_par3 ?_
  | with_reducible refine rd_par2 ?_
  | with_reducible refine rd_par33 ?_
  | with_reducible refine rd_gcons ?_
  | with_reducible refine rd_gnil ?_
  | with_reducible refine rd_sub ?_
  | with_reducible refine rd_tup ?_
  | with_reducible refine rd_lst ?_
  | ((with_reducible refine rd_tupT ?hl ?_); (case hl => exact Nat.le_of_ble_eq_true rfl))
  | ((with_reducible refine rd_lstT ?hl ?_); (case hl => exact Nat.le_of_ble_eq_true rfl))
  | with_reducible refine rd_bm ?_
  | with_reducible refine rd_bm0 ?_
  | with_reducible refine rd_sl ?_
  | with_reducible refine rd_noP ?_
  | with_reducible refine rd_part ?_
  | with_reducible refine rd_int ?_
  | with_reducible refine rd_int1 ?_
  | with_reducible refine rd_fld ?_
  | with_reducible refine rd_then ?_
  | with_reducible refine rd_raise ?_
  | with_reducible refine rd_one ?_
  | with_reducible refine rd_sfld ?_
  | with_reducible refine rd_ilist ?_
  | with_reducible refine rd_itup ?_
  | with_reducible refine rd_rng1 ?_
  | with_reducible refine rd_enum ?_
  | with_reducible refine rd_enumT ?_)
local macro_rules | `(tactic| walk_at "rd") => `(tactic| repeat (walk_at "rd1"))
def spDrawn : Sp := fun vs H Q _ => ∃ (p q : Addr) (k : Int) (n : Nat), vs = [.ref p, .int k, .int (n : Nat)] ∧ Deal H p q ∧ 1 ≤ k ∧ k ≤ 4 ∧ 1 ≤ n ∧ n < 10 ∧
  ∀ (H' : Hp) (t a l : Addr) (ms : List Int) (ps : List Addr) (L : List (Int × Int)), Deal H' p q → Fix p q H H' → H' t = some (.tup [.ref a, .ref l]) → H a = none → H l = none → a ≠ l → a ≠ p → a ≠ q → l ≠ p → l ≠ q →
    H' a = some (.lst (ms.map V.int)) → ms.length = n → (∀ m ∈ ms, 0 ≤ m ∧ m < k) →
    H' l = some (.lst (ps.map V.ref)) → Paired (PairAt H') ps L → Good n 4 L → L.Pairwise lexlt → Q (.ref t) H'
section
variable {P : Program} {w : World} {K : PySem.W.Frag} {mg : Str → Option Value} {base : Heap} (T : TX K mg)
theorem G__law_network : FnOk P w K mg base CX0 3 T.f__law_network T.d__law_network ["deal", "kinds", "many"] spDrawn := by
  refine T.F__law_network.ok sc__law_network (fun vs H Q E h => ?_) fun cdv A outer s H vs Q E hr h => ⟨_, (pss_cons (ps_asg (pe_tup (pa_cons (pe_call (G__law_any T) (hr.mono (by decide)) (by rfl) T.m__law_any T.F__law_any.kp T.b__law_any .nil pass0 (by exact (pa_cons (pv 0) (pa_cons (pv 1) pa_nil)))) (pa_cons (pe_call (G__law_any T) (hr.mono (by decide)) (by rfl) T.m__law_any T.F__law_any.kp T.b__law_any .nil pass0 (by exact (pa_cons (pv 0) (pa_cons pe_int pa_nil)))) pa_nil))) (pg_tupK (K := K) (n := 2) (by rfl) (pgs_cons (pg_name (i := 3) sc__law_network.nd rfl (.inr rfl)) (pgs_cons (pg_name (i := 4) sc__law_network.nd rfl (.inr rfl)) pgs_nil)))) (pss_cons (ps_setLc (i := 5) (own := [("at", 6)]) (by rfl) sc__law_network.nd rfl rfl (sw_true rfl rfl rfl (by decide +kernel)) (pi_range1 (by rfl) T.n_range (by exact (pa_cons (pv 2) pa_nil))) (blkOk_by (own := [("at", 6)]) (N := N__law_network) (sc := defScope s__law_network) (by decide +kernel)) (fun _ _ _ _ _ => (pg_name (i := 6) sc__law_network.nd rfl (.inl rfl))) (fun _ _ _ _ _ => pts_nil) (fun _ _ _ _ _ => (pe_ifExp (pt_cmpR op_eq (pv 4) pe_int (nomark _)) (pe_op op_mod (pe_callTy call_int1 (by rfl) T.n_int (by decide +kernel) (by exact (pa_cons (pe_op op_add (pv 3) (pv 6)) pa_nil))) (pv 1)) (pe_call (G__law_any T) (hr.mono (by decide)) (by rfl) T.m__law_any T.F__law_any.kp T.b__law_any .nil pass0 (by exact (pa_cons (pv 0) (pa_cons (pv 1) pa_nil)))))) ) (pss_one (ps_ret (pe_tup (pa_cons (pv 5) (pa_cons (pe_call (G__law_links T) (hr.mono (by decide)) (by rfl) T.m__law_links T.F__law_links.kp T.b__law_links .nil pass0 (by exact (pa_cons (pv 0) (pa_cons (pv 2) pa_nil)))) pa_nil))))))), ?_⟩
  · obtain ⟨p, q, k, n, rfl, _⟩ := h
    rfl
  · obtain ⟨p, q, k, n, rfl, d, k1, k4, n1, n10, hQ⟩ := h
    walk_at "rd"
    refine ⟨p, q, k, rfl, d, by omega, by omega, fun H1 st d1 f1 st0 stk => ?_⟩
    walk_at "rd"
    refine ⟨p, q, 3, rfl, d1, by omega, by omega, fun H2 tn d2 f2 t0 t3 => ?_⟩
    walk_at "rd"
    intro t H3 tt0 S3 ht
    refine rd_gtup (Tup.of ht) rfl ?_
    have d3 := d2.same S3
    walk_at "rd"
    refine ⟨by omega, by omega, fun D hD => ?_⟩
    obtain ⟨d4, Dp, Dq⟩ := d3.new (o := .lst []) hD
    have D0 : H D = none := f1.free d1 (f2.free d2 (S3.free hD))
    refine lc_range (lo := 0) (n := n) (fun i H' => Deal H' p q ∧ Fix p q H3 H' ∧ ∃ ms : List Int, H' D = some (.lst (ms.map V.int)) ∧ ms.length = i ∧ ∀ m ∈ ms, 0 ≤ m ∧ m < k)
      ⟨d4, Fix.new hD, [], upd_same, rfl, by simp⟩ (fun i H' hi pv => ?_) (fun H' pv => ?_)
    · obtain ⟨d5, f5, ms, hms, lms, bms⟩ := pv
      have put : ∀ (H6 : Hp) (j : Int), Deal H6 p q → Fix p q H' H6 → 0 ≤ j → j < k → ∃ acc, H6 D = some (.lst acc) ∧ acc.length < sizeLine ∧ (Deal (upd H6 D (.lst (acc ++ [V.int j]))) p q ∧ Fix p q H3 (upd H6 D (.lst (acc ++ [V.int j]))) ∧
          ∃ ms : List Int, upd H6 D (.lst (acc ++ [V.int j])) D = some (.lst (ms.map V.int)) ∧ ms.length = i + 1 ∧ ∀ m ∈ ms, 0 ≤ m ∧ m < k) := fun H6 j d6 f6 j0 jk => by
        refine ⟨_, f6 _ _ Dp Dq hms, ?_, d6.off Dp Dq, (f5.trans f6).upd hD, ms ++ [j], ?_, by simp [lms], fun m hm => ?_⟩
        · rw [List.length_map]
          exact Nat.lt_of_le_of_lt (by omega : ms.length ≤ 100) (by decide)
        · rw [upd_same]; simp
        · rcases List.mem_append.mp hm with z | z
          · exact bms m z
          · rw [List.mem_singleton.mp z]; omega
      walk_at "rd"
      refine ⟨rfl, ?_⟩
      walk_at "rd"
      by_cases c : tn = 0
      · refine iteT' (decide_eq_true c) ?_
        walk_at "rd"
        refine .inl ⟨_, rfl, ?_⟩
        walk_at "rd"
        refine rd_rI (by omega) ?_
        exact put H' _ d5 (Fix.refl _ _ _) (Int.emod_nonneg _ (by omega)) (Int.emod_lt_of_pos _ (by omega))
      · refine iteF' (decide_eq_false c) ?_
        walk_at "rd"
        refine ⟨p, q, k, rfl, d5, by omega, by omega, fun H6 j d6 f6 j0 jk => ?_⟩
        exact put H6 j d6 f6 j0 jk
    · obtain ⟨d5, f5, ms, hms, lms, bms⟩ := pv
      walk_at "rd"
      refine ⟨p, q, n, rfl, d5, n1, n10, fun H6 l ps L d6 f6 l0 lp lq hl hps g sr => ?_⟩
      walk_at "rd"
      intro t' H7 t'0 S7 ht'
      have hms6 := f6 _ _ Dp Dq hms
      have Dl : D ≠ l := fun z => by rw [z, l0] at hms; cases hms
      exact hQ H7 t' D l ms ps L (d6.same S7) (f1.trans (f2.trans ((Fix.same S3).trans (f5.trans (f6.trans (Fix.same S7)))))) ht' D0 (f1.free d1 (f2.free d2 (S3.free (f5.free d5 l0)))) Dl Dp Dq lp lq
        (S7 _ _ hms6) lms bms (S7 _ _ hl) (pairs_same hps S7) g sr
end
end K69

namespace K69
open PySem PySem.Spec PyProof.Rows L2 KX
local macro_rules | `(tactic| walk_at "rd1") => `(tactic| first
  | with_reducible refine rd_seq ?_
  | with_reducible refine rd_for ?_
  | with_reducible refine rd_lc ?_
  | with_reducible refine rd_asg ?_
  | ((with_reducible refine' rd_var ?rdv ?_); (case rdv => exact rfl))
  | with_reducible refine rd_c ?_
  | with_reducible refine rd_op ?_
  | with_reducible refine rd_un ?_
  | with_reducible refine rd_cons ?_
  | with_reducible refine rd_nil ?_
  | with_reducible refine rd_call ?_
  | with_reducible refine rd_cb ?_
  | with_reducible refine rd_tB ?_
  | with_reducible refine rd_test ?_
  | with_reducible refine rd_bl ?_
  | with_reducible refine rd_rI0 ?_
  | with_reducible refine rd_eqI ?_
  | with_reducible refine rd_neI ?_
  | with_reducible refine rd_rU ?_
  | with_reducible refine rd_name ?_
  | with_reducible refine rd_ifs ?_
  | with_reducible refine rd_and ?_
  | with_reducible refine rd_or ?_
  | with_reducible refine rd_not ?_
  | with_reducible refine rd_yes ?_
  | with_reducible refine rd_andV ?_
  | with_reducible refine rd_orV ?_
  | with_reducible refine rd_notV ?_
  | with_reducible refine rd_if ?_
  | with_reducible refine rd_isN ?_
  | with_reducible refine rd_iT ?_
  | with_reducible refine rd_iF ?_
  | with_reducible refine rd_ret ?_
  | with_reducible refine rd_retN ?_
  | with_reducible refine rd_drop ?_
  | with_reducible refine rd_next ?_
  | with_reducible refine rd_cont ?_
  | with_reducible refine rd_brk ?_
  | with_reducible refine rd_nx ?_
  | with_reducible refine rd_rt ?_
  | with_reducible refine rd_ct ?_
  | with_reducible refine rd_bk ?_
  | with_reducible refine rd_par ?_
  | with_reducible refine rd_par3 ?_
  | with_reducible refine rd_par2 ?_
  | with_reducible refine rd_par33 ?_
  | with_reducible refine rd_gcons ?_
  | with_reducible refine rd_gnil ?_
  | with_reducible refine rd_sub ?_
  | with_reducible refine rd_tup ?_
  | with_reducible refine rd_lst ?_
  | ((with_reducible refine rd_tupT ?hl ?_); (case hl => exact Nat.le_of_ble_eq_true rfl))
  | ((with_reducible refine rd_lstT ?hl ?_); (case hl => exact Nat.le_of_ble_eq_true rfl))
  | with_reducible refine rd_bm ?_
  | with_reducible refine rd_bm0 ?_
  | with_reducible refine rd_sl ?_
  | with_reducible refine rd_noP ?_
  | with_reducible refine rd_part ?_
  | with_reducible refine rd_int ?_
  | with_reducible refine rd_int1 ?_
  | with_reducible refine rd_fld ?_
  | with_reducible refine rd_then ?_
  | with_reducible refine rd_raise ?_
  | with_reducible refine rd_one ?_
  | with_reducible refine rd_sfld ?_
  | with_reducible refine rd_ilist ?_
  | with_reducible refine rd_itup ?_
  | with_reducible refine rd_rng1 ?_
  | with_reducible refine rd_enum ?_
  | with_reducible refine rd_enumT ?_)
local macro_rules | `(tactic| walk_at "rd") => `(tactic| repeat (walk_at "rd1"))
def rowOf (R : List (List Int)) (a : Int) : List Int := R.getD a.toNat []
def appR (R : List (List Int)) (a b : Int) : List (List Int) := R.set a.toNat (rowOf R a ++ [b])
structure Rows (H : Hp) (N : Addr) (rs : List Addr) (R : List (List Int)) : Prop where
  at_ : H N = some (.lst (rs.map V.ref))
  rows : Paired (fun r (row : List Int) => H r = some (.lst (row.map V.int))) rs R
  nd : rs.Nodup
  out : N ∉ rs
theorem Rows.same {H H' : Hp} {N : Addr} {rs : List Addr} {R : List (List Int)} (h : Rows H N rs R) (s : Same H H') : Rows H' N rs R :=
  ⟨s _ _ h.at_, by
    have h2 := h.rows
    clear h
    induction h2 with
    | nil => exact .nil
    | cons a _ ih => exact .cons (s _ _ a) ih, h.nd, h.out⟩
theorem rowOf_get {R : List (List Int)} {a : Int} (h1 : a.toNat < R.length) : R[a.toNat]? = some (rowOf R a) := by
  unfold rowOf
  rw [List.getD_eq_getElem?_getD, List.getElem?_eq_getElem h1]; rfl
def emptyR (n : Nat) : List (List Int) := List.replicate n []
theorem appR_len (R : List (List Int)) (a b : Int) : (appR R a b).length = R.length := by unfold appR; simp
theorem rowOf_app {R : List (List Int)} {a b c : Int} (ne : a.toNat ≠ c.toNat) : rowOf (appR R a b) c = rowOf R c := by
  unfold rowOf appR
  rw [List.getD_eq_getElem?_getD, List.getD_eq_getElem?_getD, List.getElem?_set_ne ne]
theorem rowOf_app_self {R : List (List Int)} {a b : Int} (h : a.toNat < R.length) : rowOf (appR R a b) a = rowOf R a ++ [b] := by
  show (List.set R a.toNat (rowOf R a ++ [b])).getD a.toNat [] = rowOf R a ++ [b]
  rw [List.getD_eq_getElem?_getD, List.getElem?_set_self h]; rfl
theorem Rows.app {H : Hp} {N : Addr} {rs : List Addr} {R : List (List Int)} (h : Rows H N rs R) {a b : Int} {r : Addr} (hr : rs[a.toNat]? = some r) :
    Rows (upd H r (.lst ((rowOf R a).map V.int ++ [.int b]))) N rs (appR R a b) := by
  have mem : r ∈ rs := List.mem_of_getElem? hr
  refine ⟨by rw [upd_ne (fun z => h.out (by rw [z]; exact mem))]; exact h.at_, ?_, h.nd, h.out⟩
  have e0 : (rowOf R a).map V.int ++ [V.int b] = (rowOf R a ++ [b]).map V.int := by simp
  rw [e0]
  have gen : ∀ {l : List Addr} {m : List (List Int)} (k : Nat) (row : List Int), Paired (fun r (row : List Int) => H r = some (.lst (row.map V.int))) l m → l.Nodup → l[k]? = some r →
      Paired (fun q (row' : List Int) => upd H r (.lst (row.map V.int)) q = some (.lst (row'.map V.int))) l (m.set k row) := by
    intro l m k row p
    induction p generalizing k with
    | nil => intro _ z; simp at z
    | @cons x y l m hxy q ih =>
      intro nd z
      have nd' := (List.nodup_cons.mp nd)
      cases k with
      | zero =>
        simp at z
        subst z
        refine .cons (by show upd H x _ x = _; rw [upd_same]) ?_
        have gen2 : ∀ {l : List Addr} {m : List (List Int)}, Paired (fun r (row : List Int) => H r = some (.lst (row.map V.int))) l m → x ∉ l → Paired (fun q (row' : List Int) => upd H x (.lst (row.map V.int)) q = some (.lst (row'.map V.int))) l m := by
          intro l m p
          induction p with
          | nil => intro _; exact .nil
          | @cons u v l m huv _ ih2 =>
            intro hx
            refine .cons ?_ (ih2 fun z => hx (List.mem_cons_of_mem _ z))
            show upd H x _ u = _
            rw [upd_ne (fun z => hx (by rw [z]; exact List.mem_cons_self))]
            exact huv
        exact gen2 q nd'.1
      | succ j =>
        simp at z
        refine .cons ?_ (ih j nd'.2 z)
        show upd H r _ x = _
        rw [upd_ne (fun e => nd'.1 (by rw [e]; exact List.mem_of_getElem? z))]
        exact hxy
  exact gen a.toNat (rowOf R a ++ [b]) h.rows h.nd hr
theorem paired_get' {α β : Type} {F : α → β → Prop} {l : List α} {m : List β} (h : Paired F l m) : ∀ {i : Nat} {y : β}, m[i]? = some y → ∃ x, l[i]? = some x ∧ F x y := by
  induction h with
  | nil => intro i y h; simp at h
  | cons a _ ih =>
    intro i y h
    cases i with
    | zero => simp at h; subst h; exact ⟨_, rfl, a⟩
    | succ i => exact ih h
theorem Rows.row' {H : Hp} {N : Addr} {rs : List Addr} {R : List (List Int)} (h : Rows H N rs R) {a : Int} (a0 : 0 ≤ a) (a1 : a < R.length) : ∃ r, rs[a.toNat]? = some r ∧ atI (rs.map V.ref) a = some (.ref r) ∧ H r = some (.lst ((rowOf R a).map V.int)) := by
  have hn : a.toNat < R.length := by omega
  obtain ⟨r, e, hr⟩ := paired_get' h.rows (rowOf_get hn)
  refine ⟨r, e, ?_, hr⟩
  obtain ⟨n, rfl⟩ := Int.eq_ofNat_of_zero_le a0
  have en : ((n : Nat) : Int).toNat = n := by omega
  rw [en] at e
  exact atI_nat (by rw [List.getElem?_map, e]; rfl)
theorem paired_take {α β : Type} {F : α → β → Prop} {l : List α} {m : List β} (h : Paired F l m) : ∀ i, Paired F (l.take i) (m.take i) := by
  induction h with
  | nil => intro i; cases i <;> exact .nil
  | cons a _ ih =>
    intro i
    cases i with
    | zero => exact .nil
    | succ i => exact .cons a (ih i)
theorem paired_drop {α β : Type} {F : α → β → Prop} {l : List α} {m : List β} (h : Paired F l m) : ∀ i, Paired F (l.drop i) (m.drop i) := by
  induction h with
  | nil => intro i; cases i <;> exact .nil
  | cons a t ih =>
    intro i
    cases i with
    | zero => exact .cons a t
    | succ i => exact ih i
theorem paired_append {α β : Type} {F : α → β → Prop} {l l' : List α} {m m' : List β} (h : Paired F l m) (h' : Paired F l' m') : Paired F (l ++ l') (m ++ m') := by
  induction h with
  | nil => exact h'
  | cons a _ ih => exact .cons a ih
end K69

namespace K69
open PySem PySem.Spec PyProof.Rows L2 KX
local macro_rules | `(tactic| walk_at "rd1") => `(tactic| first
  | with_reducible refine rd_seq ?_
  | with_reducible refine rd_for ?_
  | with_reducible refine rd_lc ?_
  | with_reducible refine rd_asg ?_
  | ((with_reducible refine' rd_var ?rdv ?_); (case rdv => exact rfl))
  | with_reducible refine rd_c ?_
  | with_reducible refine rd_op ?_
  | with_reducible refine rd_un ?_
  | with_reducible refine rd_cons ?_
  | with_reducible refine rd_nil ?_
  | with_reducible refine rd_call ?_
  | with_reducible refine rd_cb ?_
  | with_reducible refine rd_tB ?_
  | with_reducible refine rd_test ?_
  | with_reducible refine rd_bl ?_
  | with_reducible refine rd_rI0 ?_
  | with_reducible refine rd_eqI ?_
  | with_reducible refine rd_neI ?_
  | with_reducible refine rd_rU ?_
  | with_reducible refine rd_name ?_
  | with_reducible refine rd_ifs ?_
  | with_reducible refine rd_and ?_
  | with_reducible refine rd_or ?_
  | with_reducible refine rd_not ?_
  | with_reducible refine rd_yes ?_
  | with_reducible refine rd_andV ?_
  | with_reducible refine rd_orV ?_
  | with_reducible refine rd_notV ?_
  | with_reducible refine rd_if ?_
  | with_reducible refine rd_isN ?_
  | with_reducible refine rd_iT ?_
  | with_reducible refine rd_iF ?_
  | with_reducible refine rd_ret ?_
  | with_reducible refine rd_retN ?_
  | with_reducible refine rd_drop ?_
  | with_reducible refine rd_next ?_
  | with_reducible refine rd_cont ?_
  | with_reducible refine rd_brk ?_
  | with_reducible refine rd_nx ?_
  | with_reducible refine rd_rt ?_
  | with_reducible refine rd_ct ?_
  | with_reducible refine rd_bk ?_
  | with_reducible refine rd_par ?_
  | with_reducible refine rd_par3 ?_
  | with_reducible refine rd_par2 ?_
  | with_reducible refine rd_par33 ?_
  | with_reducible refine rd_gcons ?_
  | with_reducible refine rd_gnil ?_
  | with_reducible refine rd_sub ?_
  | with_reducible refine rd_tup ?_
  | with_reducible refine rd_lst ?_
  | ((with_reducible refine rd_tupT ?hl ?_); (case hl => exact Nat.le_of_ble_eq_true rfl))
  | ((with_reducible refine rd_lstT ?hl ?_); (case hl => exact Nat.le_of_ble_eq_true rfl))
  | with_reducible refine rd_bm ?_
  | with_reducible refine rd_bm0 ?_
  | with_reducible refine rd_sl ?_
  | with_reducible refine rd_noP ?_
  | with_reducible refine rd_part ?_
  | with_reducible refine rd_int ?_
  | with_reducible refine rd_int1 ?_
  | with_reducible refine rd_fld ?_
  | with_reducible refine rd_then ?_
  | with_reducible refine rd_raise ?_
  | with_reducible refine rd_one ?_
  | with_reducible refine rd_sfld ?_
  | with_reducible refine rd_ilist ?_
  | with_reducible refine rd_itup ?_
  | with_reducible refine rd_rng1 ?_
  | with_reducible refine rd_enum ?_
  | with_reducible refine rd_enumT ?_)
local macro_rules | `(tactic| walk_at "rd") => `(tactic| repeat (walk_at "rd1"))
def modeAt (ms : List Int) (i : Int) : Int := ms.getD i.toNat 0
theorem modeAt_get {ms : List Int} {i : Int} (h0 : 0 ≤ i) (h1 : i < ms.length) : atI (ms.map V.int) i = some (.int (modeAt ms i)) := by
  obtain ⟨n, rfl⟩ := Int.eq_ofNat_of_zero_le h0
  have hn : n < ms.length := by omega
  refine atI_nat ?_
  unfold modeAt
  rw [List.getElem?_map, List.getElem?_eq_getElem hn, List.getD_eq_getElem?_getD]
  have : ((n : Nat) : Int).toNat = n := by omega
  rw [this, List.getElem?_eq_getElem hn]; rfl
theorem modeAt_mem {ms : List Int} {i : Int} (h0 : 0 ≤ i) (h1 : i < ms.length) : modeAt ms i ∈ ms := by
  unfold modeAt
  rw [List.getD_eq_getElem?_getD, List.getElem?_eq_getElem (by omega)]
  exact List.getElem_mem (by omega)
theorem it_wk {J : It} {n : Nat} {G : Hp → Prop} {Y : Nat → Hp → V → Hp → Prop} (w : Walk J n G Y) {T : V → Hp → (Hp → Prop) → Prop} {Qd : Hp → Prop} {H0 : Hp}
    (Pv : Nat → Hp → Prop) (h0 : Pv 0 H0) (hG : ∀ i H, i ≤ n → Pv i H → G H)
    (hs : ∀ i x H H', i < n → Pv i H → Y i H x H' → T x H' (Pv (i + 1))) (hd : ∀ H, Pv n H → Qd H) :
    ∃ W : Nat → Nat → Hp → Prop, (∃ m, W 0 m H0) ∧ ∀ i m H, W i m H →
      (J.stop i H ∧ Qd H) ∨ (J.go i H ∧ ∃ Nx : Hp → Prop, (∀ H', Nx H' → ∃ m', m' < m ∧ W (i + 1) m' H') ∧ ∀ x H', J.yld i H x H' → T x H' Nx) := by
  refine ⟨fun i m H => m = n - i ∧ i ≤ n ∧ Pv i H, ⟨n, by simp, Nat.zero_le _, h0⟩, ?_⟩
  rintro i m H ⟨rfl, hi, p⟩
  have q := hG i H hi p
  by_cases hlt : i < n
  · exact Or.inr ⟨w.goes i H hlt q, Pv (i + 1), fun H' z => ⟨n - (i + 1), by omega, rfl, hlt, z⟩, fun x H' y => hs i x H H' hlt p (w.yields i H x H' hlt q y)⟩
  · have e : i = n := by omega
    subst e
    exact Or.inl ⟨w.stops H q, hd H p⟩
/-! ### tables -/
inductive RowIs (K : PySem.W.Frag) (H : Hp) (k : Nat) : V → Bool → Prop
  | ntp {x : V} {s : String} (t : TyX K H x (.type s)) (q : kitB s "tuple" = some false) : RowIs K H k x false
  | len {a : Addr} {xs : List V} (h : Tup H a xs) (l : xs.length ≠ k) : RowIs K H k (.ref a) false
  | ok {a : Addr} {xs : List V} {os : List (Option Int)} (h : Tup H a xs) (l : xs.length = k) (p : Paired (Kin K H) xs os) : RowIs K H k (.ref a) (os.all Option.isSome)
theorem RowIs.same {K : PySem.W.Frag} {H H' : Hp} {k : Nat} {x : V} {b : Bool} (h : RowIs K H k x b) (s : Same H H') : RowIs K H' k x b := by
  cases h with
  | ntp t q => exact .ntp (tyx_same t s) q
  | len h l => exact .len (h.same s) l
  | ok h l p => exact .ok (h.same s) l (kins_same p s)
inductive RowsIs (K : PySem.W.Frag) (H : Hp) (k m : Nat) : V → Bool → Prop
  | ntp {x : V} {s : String} (t : TyX K H x (.type s)) (q : kitB s "tuple" = some false) : RowsIs K H k m x false
  | len {a : Addr} {xs : List V} (h : Tup H a xs) (l : xs.length ≠ m) : RowsIs K H k m (.ref a) false
  | ok {a : Addr} {xs : List V} {bs : List Bool} (h : Tup H a xs) (l : xs.length = m) (p : Paired (RowIs K H k) xs bs) : RowsIs K H k m (.ref a) (bs.all id)
theorem RowsIs.same {K : PySem.W.Frag} {H H' : Hp} {k m : Nat} {x : V} {b : Bool} (h : RowsIs K H k m x b) (s : Same H H') : RowsIs K H' k m x b := by
  cases h with
  | ntp t q => exact .ntp (tyx_same t s) q
  | len h l => exact .len (h.same s) l
  | ok h l p => exact .ok (h.same s) l (paired_mono p fun _ _ z => z.same s)
/-- a table: rows of numbers -/
def TabAt (H : Hp) (t : Addr) (W : List (List Int)) : Prop := ∃ qs : List Addr, Tup H t (qs.map V.ref) ∧ Paired (RowT H) qs W
theorem rowT_same {H H' : Hp} {q : Addr} {ns : List Int} (h : RowT H q ns) (s : Same H H') : RowT H' q ns := Tup.same h s
theorem TabAt.same {H H' : Hp} {t : Addr} {W : List (List Int)} (h : TabAt H t W) (s : Same H H') : TabAt H' t W := by
  obtain ⟨qs, a, b⟩ := h
  exact ⟨qs, a.same s, paired_mono b fun _ _ z => rowT_same z s⟩
def at2 (W : List (List Int)) (a b : Int) : Int := modeAt (rowOf W a) b
theorem TabAt.row {H : Hp} {t : Addr} {W : List (List Int)} (h : TabAt H t W) {a : Int} (h0 : 0 ≤ a) (h1 : a < W.length) : ∃ xs q, Tup H t xs ∧ atI xs a = some (.ref q) ∧ RowT H q (rowOf W a) := by
  obtain ⟨qs, hq, hp⟩ := h
  obtain ⟨n, rfl⟩ := Int.eq_ofNat_of_zero_le h0
  have hn : n < W.length := by omega
  obtain ⟨q, e, r⟩ := paired_get' hp (List.getElem?_eq_getElem hn)
  have er : rowOf W (n : Nat) = W[n] := by
    unfold rowOf
    have : ((n : Nat) : Int).toNat = n := by omega
    rw [this, List.getD_eq_getElem?_getD, List.getElem?_eq_getElem hn]; rfl
  exact ⟨_, q, hq, atI_nat (by rw [List.getElem?_map, e]; rfl), by rw [er]; exact r⟩
theorem rowOf_mem' {W : List (List Int)} {a : Int} (h0 : 0 ≤ a) (h1 : a < W.length) : rowOf W a ∈ W := by
  unfold rowOf
  have hn : a.toNat < W.length := by omega
  rw [List.getD_eq_getElem?_getD, List.getElem?_eq_getElem hn]
  exact List.getElem_mem hn
/-- a square table of k rows: even or not -/
def evenB (k : Nat) (W : List (List Int)) : Bool := (List.range k).all fun a => (List.range a).all fun b => decide (at2 W (a : Nat) (b : Nat) = at2 W (b : Nat) (a : Nat))
inductive EvIs (K : PySem.W.Frag) (H : Hp) (k : Nat) : V → Bool → Prop
  | no {x : V} (r : RowsIs K H k k x false) : EvIs K H k x false
  | tab {t : Addr} {W : List (List Int)} (h : TabAt H t W) (l : W.length = k) (r : ∀ r ∈ W, r.length = k) : EvIs K H k (.ref t) (evenB k W)
theorem EvIs.same {K : PySem.W.Frag} {H H' : Hp} {k : Nat} {x : V} {b : Bool} (h : EvIs K H k x b) (s : Same H H') : EvIs K H' k x b := by
  cases h with
  | no r => exact .no (r.same s)
  | tab h l r => exact .tab (h.same s) l r
theorem kin_ints (K : PySem.W.Frag) (H : Hp) : ∀ r : List Int, Paired (Kin K H) (r.map V.int) (r.map some)
  | [] => .nil
  | x :: r => .cons (.int x) (kin_ints K H r)
theorem TabAt.rows {K : PySem.W.Frag} {H : Hp} {t : Addr} {W : List (List Int)} {k m : Nat} (h : TabAt H t W) (l : W.length = m) (r : ∀ r ∈ W, r.length = k) : RowsIs K H k m (.ref t) true := by
  obtain ⟨qs, hq, hp⟩ := h
  have lq := paired_len hp
  have p : ∀ {qs : List Addr} {W : List (List Int)}, Paired (RowT H) qs W → (∀ r ∈ W, r.length = k) → Paired (RowIs K H k) (qs.map V.ref) (W.map fun _ => true) := fun {qs W} z hr => by
    induction z with
    | nil => exact .nil
    | @cons q r qs W a _ ih =>
      refine .cons ?_ (ih fun r h => hr r (List.mem_cons_of_mem _ h))
      have e : (r.map some).all Option.isSome = true := by simp
      have z : RowIs K H k (.ref q) ((r.map some).all Option.isSome) := .ok a (by rw [List.length_map]; exact hr r List.mem_cons_self) (kin_ints K H r)
      rwa [e] at z
  have e : (W.map fun _ => true).all id = true := by simp
  have z : RowsIs K H k m (.ref t) ((W.map fun _ => true).all id) := .ok hq (by rw [List.length_map, lq, l]) (p hp r)
  rwa [e] at z
def spRows (K : PySem.W.Frag) : L2.Sp := fun vs H Q _ => ∃ (k m : Nat) (x : V) (b : Bool), vs = [.int (k : Nat), .int (m : Nat), x] ∧ m < 1000 ∧ k < 1000 ∧ RowsIs K H k m x b ∧ ∀ H', Same H H' → Q (.bl b) H'
def spEven (K : PySem.W.Frag) : L2.Sp := fun vs H Q _ => ∃ (k : Nat) (x : V) (b : Bool), vs = [.int (k : Nat), x] ∧ k < 10 ∧ EvIs K H k x b ∧ ∀ H', Same H H' → Q (.bl b) H'
theorem rd_at2 {K : PySem.W.Frag} {H : Hp} {t : Addr} {W : List (List Int)} {a : Int} {Q : VK} (h : TabAt H t W) (h0 : 0 ≤ a) (h1 : a < W.length) (q : ∀ r, RowT H r (rowOf W a) → Q (.ref r) H) : rIxT K (.ref t) (.int a) H Q := by
  obtain ⟨xs, r, hx, ha, hr⟩ := h.row h0 h1
  exact rd_ixT hx ha (q r hr)
theorem rd_rowAt {K : PySem.W.Frag} {H : Hp} {r : Addr} {ns : List Int} {b : Int} {Q : VK} (h : RowT H r ns) (h0 : 0 ≤ b) (h1 : b < ns.length) (q : Q (.int (modeAt ns b)) H) : rIxT K (.ref r) (.int b) H Q :=
  rd_ixT h (modeAt_get h0 h1) q
def okT (W : List (List Int)) : Bool := W.all fun r => r.all fun x => decide ((if x < 0 then -x else x) ≤ 1000)
inductive TbIs (K : PySem.W.Frag) (H : Hp) : V → Bool → Prop
  | ntp {x : V} {s : String} (t : TyX K H x (.type s)) (q : kitB s "tuple" = some false) : TbIs K H x false
  | len {a : Addr} {xs : List V} (h : Tup H a xs) (l : xs.length < 1 ∨ 4 < xs.length) : TbIs K H (.ref a) false
  | no {a : Addr} {xs : List V} (h : Tup H a xs) (l1 : 1 ≤ xs.length) (l4 : xs.length ≤ 4) (r : RowsIs K H xs.length xs.length (.ref a) false) : TbIs K H (.ref a) false
  | tab {t : Addr} {W : List (List Int)} {k : Nat} (h : TabAt H t W) (l : W.length = k) (r : ∀ r ∈ W, r.length = k) (k1 : 1 ≤ k) (k4 : k ≤ 4) : TbIs K H (.ref t) (okT W)
theorem TbIs.same {K : PySem.W.Frag} {H H' : Hp} {x : V} {b : Bool} (h : TbIs K H x b) (s : Same H H') : TbIs K H' x b := by
  cases h with
  | ntp t q => exact .ntp (tyx_same t s) q
  | len h l => exact .len (h.same s) l
  | no h l1 l4 r => exact .no (h.same s) l1 l4 (r.same s)
  | tab h l r k1 k4 => exact .tab (h.same s) l r k1 k4
theorem rd_chain {r r' : R2} {ta tb tc : TE} {σ : L2.St} {H : Hp} {Q : VK} (h : ta σ H fun x H1 => tb σ H1 fun y H2 => r x y H2 fun z H3 => ∃ k, z = .bl k ∧ (if k = true then tc σ H3 fun w' H4 => r' y w' H4 Q else Q (.bl false) H3)) : tChain r r' ta tb tc σ H Q := h
def spTab (K : PySem.W.Frag) : L2.Sp := fun vs H Q _ => ∃ (x : V) (b : Bool), vs = [x] ∧ TbIs K H x b ∧ ∀ H', Same H H' → Q (.bl b) H'
section
variable {P : Program} {w : World} {K : PySem.W.Frag} {mg : Str → Option Value} {base : Heap} (T : TX K mg)
theorem G_are_rows : FnOk P w K mg base CX0 2 T.f_are_rows T.d_are_rows ["modes", "many", "value"] (spRows K) := by
  refine T.F_are_rows.ok sc_are_rows (fun vs H Q E h => ?_) fun cdv A outer s H vs Q E hr h => ⟨_, (pss_cons (ps_if (pt_not (pt_val (pe_call (G_is_tuple_of T) (hr.mono (by decide)) (by rfl) T.m_is_tuple_of T.F_is_tuple_of.kp T.b_is_tuple_of .nil pass0 (by exact (pa_cons (pv 2) (pa_cons (pv 1) pa_nil)))))) (pss_one (ps_ret pe_bl)) pss_nil) (pss_one (ps_ret (pe_callB (cr_allK (K := K) rfl) (by rfl) T.n_all (by decide +kernel) (by exact (pa_cons (by exact (pe_lc (own := [("row", 3)]) (by rfl) sc_are_rows.nd (pi_tupK (K := K) (pv 2)) (blkOk_by (own := [("row", 3)]) (N := N_are_rows) (sc := defScope s_are_rows) (by decide +kernel)) (fun _ _ _ _ _ => (pg_name (i := 3) sc_are_rows.nd rfl (.inl rfl))) (fun _ _ _ _ _ => pts_nil) (fun _ _ _ _ _ => (pe_and (pe_call (G_is_tuple_of T) (hr.mono (by decide)) (by rfl) T.m_is_tuple_of T.F_is_tuple_of.kp T.b_is_tuple_of .nil pass0 (by exact (pa_cons (pv 3) (pa_cons (pv 0) pa_nil)))) (pe_one (pe_callB (cr_allK (K := K) rfl) (by rfl) T.n_all (by decide +kernel) (by exact (pa_cons (by exact (pe_lc (own := [("number", 4)]) (by rfl) sc_are_rows.nd (pi_tupK (K := K) (pv 3)) (blkOk_by (own := [("number", 4)]) (N := N_are_rows) (sc := ({ kind := PySem.ScopeKind.function, names := [(PySem.Str.ofString ".0", PySem.NameKind.local), (PySem.Str.ofString "row", PySem.NameKind.local), (PySem.Str.ofString "is_tuple_of", PySem.NameKind.globalImplicit), (PySem.Str.ofString "all", PySem.NameKind.globalImplicit), (PySem.Str.ofString "modes", PySem.NameKind.cell)], isGenerator := false, isCoroutine := false, more := [] } : PySem.Scope)) (by decide +kernel)) (fun _ _ _ _ _ => (pg_name (i := 4) sc_are_rows.nd rfl (.inl rfl))) (fun _ _ _ _ _ => pts_nil) (fun _ _ _ _ _ => (pe_call (G_is_integer T) (hr.mono (by decide)) (by rfl) T.m_is_integer T.F_is_integer.kp T.b_is_integer .nil pass0 (by exact (pa_cons (pv 4) pa_nil)))) )) pa_nil)))))) )) pa_nil)))))), ?_⟩
  · obtain ⟨k, m, x, b, rfl, _⟩ := h
    rfl
  · obtain ⟨k, m, x, b, rfl, m9, k9, hx, hQ⟩ := h
    walk_at "rd"
    cases hx with
    | ntp t q =>
      refine ⟨_, _, rfl, .inl ⟨_, t, q, ?_⟩⟩
      walk_at "rd"
      refine iteT' rfl ?_
      walk_at "rd"
      exact hQ H (Same.refl H)
    | @len a xs h l =>
      refine ⟨_, _, rfl, .inr ⟨a, xs, rfl, h, ?_⟩⟩
      walk_at "rd"
      refine iteT' (by simp; omega) ?_
      walk_at "rd"
      exact hQ H (Same.refl H)
    | @ok a xs bs h l p =>
      refine ⟨_, _, rfl, .inr ⟨a, xs, rfl, h, ?_⟩⟩
      walk_at "rd"
      refine iteF' (by simp; omega) ?_
      walk_at "rd"
      refine ⟨a, rfl, ⟨_, h.sq⟩, fun D hD => ?_⟩
      have lb := paired_len p
      refine lcv_tup (xs := xs) (bs.map V.bl) h (by rw [List.length_map]; omega) (by rw [List.length_map]; omega) hD (fun j x z' H1 hx hz S1 R' hR' => ?_) (fun H1 S1 hD1 => ?_)
      · rw [List.getElem?_map] at hz
        obtain ⟨b, hb, rfl⟩ := Option.map_eq_some_iff.mp hz
        obtain ⟨b', hb', rb⟩ := paired_get p hx
        rw [hb] at hb'
        cases hb'
        walk_at "rd"
        refine ⟨rfl, ?_⟩
        walk_at "rd"
        cases rb.same S1 with
        | ntp t q =>
          refine ⟨_, _, rfl, .inl ⟨_, t, q, ?_⟩⟩
          walk_at "rd"
          exact hR' H1 (Same.refl _)
        | @len a2 ys h2 l2 =>
          refine ⟨_, _, rfl, .inr ⟨a2, ys, rfl, h2, ?_⟩⟩
          walk_at "rd"
          have e : decide (((ys.length : Nat) : Int) = ((k : Nat) : Int)) = false := decide_eq_false (by omega)
          rw [e]
          refine iteF' rfl ?_
          exact hR' H1 (Same.refl _)
        | @ok a2 ys os h2 l2 p2 =>
          refine ⟨_, _, rfl, .inr ⟨a2, ys, rfl, h2, ?_⟩⟩
          walk_at "rd"
          have e : decide (((ys.length : Nat) : Int) = ((k : Nat) : Int)) = true := decide_eq_true (by omega)
          rw [e]
          refine iteT' rfl ?_
          walk_at "rd"
          refine ⟨a2, rfl, ⟨_, h2.sq⟩, fun D2 hD2 => ?_⟩
          have lo := paired_len p2
          refine lcv_tup (xs := ys) (os.map fun o => V.bl o.isSome) h2 (by rw [List.length_map]; omega) (by rw [List.length_map]; omega) hD2 (fun i y z2 H2 hy hz2 S2 R2 hR2 => ?_) (fun H2 S2 hD2 => ?_)
          · rw [List.getElem?_map] at hz2
            obtain ⟨o, ho, rfl⟩ := Option.map_eq_some_iff.mp hz2
            obtain ⟨o', ho', ko⟩ := paired_get p2 hy
            rw [ho] at ho'
            cases ho'
            walk_at "rd"
            refine ⟨rfl, ?_⟩
            walk_at "rd"
            exact ⟨_, _, rfl, kin_same ko S2, hR2 H2 (Same.refl _)⟩
          · walk_at "rd"
            have e3 : (os.map fun o => V.bl o.isSome) = (os.map Option.isSome).map V.bl := by simp
            rw [e3] at hD2
            refine rd_all hD2 ?_
            have e4 : (os.map Option.isSome).all id = os.all Option.isSome := by simp [List.all_map]
            rw [e4]
            exact hR' H2 S2
      · walk_at "rd"
        refine rd_all hD1 ?_
        exact hQ H1 S1
theorem G_is_even_table : FnOk P w K mg base CX0 3 T.f_is_even_table T.d_is_even_table ["modes", "value"] (spEven K) := by
  refine T.F_is_even_table.ok sc_is_even_table (fun vs H Q E h => ?_) fun cdv A outer s H vs Q E hr h => ⟨_, (pss_cons (ps_if (pt_not (pt_val (pe_call (G_are_rows T) (hr.mono (by decide)) (by rfl) T.m_are_rows T.F_are_rows.kp T.b_are_rows .nil pass0 (by exact (pa_cons (pv 0) (pa_cons (pv 0) (pa_cons (pv 1) pa_nil))))))) (pss_one (ps_ret pe_bl)) pss_nil) (pss_one (ps_ret (pe_callB (cr_allK (K := K) rfl) (by rfl) T.n_all (by decide +kernel) (by exact (pa_cons (by exact (pe_lc2 (own := [("a", 2), ("b", 3)]) (vs1 := [3]) (by rfl) sc_is_even_table.nd (pi_range1 (by rfl) T.n_range (by exact (pa_cons (pv 0) pa_nil))) (blkOk_by (own := [("a", 2), ("b", 3)]) (N := N_is_even_table) (sc := defScope s_is_even_table) (by decide +kernel)) (by decide) (fun _ _ _ _ _ => (pg_name (i := 2) sc_is_even_table.nd rfl (.inl rfl))) (fun _ _ _ _ _ => pts_nil) (fun _ _ _ _ _ => (by exact (pi_range1 (by rfl) T.n_range (by exact (pa_cons (pv 2) pa_nil))))) (fun _ _ _ _ _ => (pg_name (i := 3) sc_is_even_table.nd rfl (.inl rfl))) (fun _ _ _ _ _ => pts_nil) (fun _ _ _ _ _ => (pe_cmpR op_eq (pe_ix (ix_tupK (K := K)) (pe_ix (ix_tupK (K := K)) (pv 1) (pv 2) (fun _ _ => rfl)) (pv 3) (fun _ _ => rfl)) (pe_ix (ix_tupK (K := K)) (pe_ix (ix_tupK (K := K)) (pv 1) (pv 3) (fun _ _ => rfl)) (pv 2) (fun _ _ => rfl)) (nomark _))) )) pa_nil)))))), ?_⟩
  · obtain ⟨k, x, b, rfl, _⟩ := h
    rfl
  · obtain ⟨k, x, b, rfl, k9, hx, hQ⟩ := h
    walk_at "rd"
    cases hx with
    | no r =>
      refine ⟨k, k, _, _, rfl, by omega, by omega, r, fun H1 S1 => ?_⟩
      walk_at "rd"
      refine iteT' rfl ?_
      walk_at "rd"
      exact hQ H1 S1
    | @tab t W h l r =>
      refine ⟨k, k, _, _, rfl, by omega, by omega, h.rows l r, fun H1 S1 => ?_⟩
      walk_at "rd"
      refine iteF' rfl ?_
      walk_at "rd"
      unfold tLc2
      walk_at "rd"
      refine ⟨by omega, by omega, fun D hD => ?_⟩
      refine it_wk (walk_rng (lo := 0) (n := k)) (fun i H' => Same H1 H' ∧ ∃ bs : List Bool, H' D = some (.lst (bs.map V.bl)) ∧ bs.length ≤ 10 * i ∧ bs.all id = (List.range i).all fun a => (List.range a).all fun b => decide (at2 W (a : Nat) (b : Nat) = at2 W (b : Nat) (a : Nat)))
        ⟨Same.fresh hD, [], upd_same, Nat.zero_le _, rfl⟩ (fun _ _ _ _ => trivial) (fun i v H2 H3 hi p y => ?_) (fun H2 p => ?_)
      · obtain ⟨S2, bs, hbs, lbs, ebs⟩ := p
        obtain ⟨rfl, rfl⟩ := y
        rw [Int.zero_add]
        walk_at "rd"
        refine ⟨rfl, ?_⟩
        walk_at "rd"
        refine ⟨by omega, by omega, ?_⟩
        have e0 : ((i : Nat) : Int).toNat = i := by omega
        rw [e0]
        refine it_wk (walk_rng (lo := 0) (n := i)) (fun j H' => Same H1 H' ∧ ∃ bs : List Bool, H' D = some (.lst (bs.map V.bl)) ∧ bs.length ≤ 10 * i + j ∧ bs.all id = (((List.range i).all fun a => (List.range a).all fun b => decide (at2 W (a : Nat) (b : Nat) = at2 W (b : Nat) (a : Nat))) && (List.range j).all fun b => decide (at2 W (i : Nat) (b : Nat) = at2 W (b : Nat) (i : Nat))))
          ⟨S2, bs, hbs, by omega, by rw [ebs]; simp⟩ (fun _ _ _ _ => trivial) (fun j v H4 H5 hj p y => ?_) (fun H4 p => ?_)
        · obtain ⟨S4, cs, hcs, lcs, ecs⟩ := p
          obtain ⟨rfl, rfl⟩ := y
          rw [Int.zero_add]
          have ht := (h.same S1).same S4
          walk_at "rd"
          refine ⟨rfl, ?_⟩
          walk_at "rd"
          refine rd_at2 ht (by omega) (by omega) fun r1 hr1 => ?_
          walk_at "rd"
          refine rd_rowAt hr1 (by omega) (by rw [r _ (rowOf_mem' (by omega) (by omega))]; omega) ?_
          walk_at "rd"
          refine rd_at2 ht (by omega) (by omega) fun r2 hr2 => ?_
          walk_at "rd"
          refine rd_rowAt hr2 (by omega) (by rw [r _ (rowOf_mem' (by omega) (by omega))]; omega) ?_
          walk_at "rd"
          refine ⟨_, hcs, ?_, same_put S4 hD, cs ++ [decide (at2 W (i : Nat) (j : Nat) = at2 W (j : Nat) (i : Nat))], by rw [upd_same, List.map_append]; rfl, by rw [List.length_append]; simp; omega, ?_⟩
          · rw [List.length_map]
            exact Nat.lt_of_le_of_lt (by omega : cs.length ≤ 1000) (by decide)
          · rw [List.all_append, ecs, List.range_succ, List.all_append]
            simp [Bool.and_assoc]
        · obtain ⟨S4, cs, hcs, lcs, ecs⟩ := p
          refine ⟨S4, cs, hcs, by omega, ?_⟩
          rw [ecs, List.range_succ, List.all_append]
          simp
      · obtain ⟨S2, bs, hbs, lbs, ebs⟩ := p
        walk_at "rd"
        refine rd_all hbs ?_
        rw [ebs]
        exact hQ H2 (S1.trans S2)
theorem G_is_table : FnOk P w K mg base CX0 3 T.f_is_table T.d_is_table ["value"] (spTab K) := by
  refine T.F_is_table.ok sc_is_table (fun vs H Q E h => ?_) fun cdv A outer s H vs Q E hr h => ⟨_, (pss_cons (ps_if (PW.pt (pw_or (pt_not (pt_val (pe_callB (cr_isiK (K := K)) (by rfl) T.n_isinstance (by decide +kernel) (by exact (pa_cons (pv 0) (pa_cons (pe_bltn (v := .ty "tuple") rfl T.n_tuple (by decide +kernel) rfl) pa_nil)))))) (pw_or (pt_not (pt_chain op_le op_le pe_int (pe_callB (cr_lenK (K := K)) (by rfl) T.n_len (by decide +kernel) (by exact (pa_cons (pv 0) pa_nil))) (pe_glob (v := .int 4) rfl T.m_MOST_MODES ⟨_, rfl⟩))) (pw_or1 (pt_not (pt_val (pe_call (G_are_rows T) (hr.mono (by decide)) (by rfl) T.m_are_rows T.F_are_rows.kp T.b_are_rows .nil pass0 (by exact (pa_cons (pe_callB (cr_lenK (K := K)) (by rfl) T.n_len (by decide +kernel) (by exact (pa_cons (pv 0) pa_nil))) (pa_cons (pe_callB (cr_lenK (K := K)) (by rfl) T.n_len (by decide +kernel) (by exact (pa_cons (pv 0) pa_nil))) (pa_cons (pv 0) pa_nil))))))))))) (pss_one (ps_ret pe_bl)) pss_nil) (pss_one (ps_ret (pe_callB (cr_allK (K := K) rfl) (by rfl) T.n_all (by decide +kernel) (by exact (pa_cons (by exact (pe_lc2 (own := [("row", 1), ("number", 2)]) (vs1 := [2]) (by rfl) sc_is_table.nd (pi_tupK (K := K) (pv 0)) (blkOk_by (own := [("row", 1), ("number", 2)]) (N := N_is_table) (sc := defScope s_is_table) (by decide +kernel)) (by decide) (fun _ _ _ _ _ => (pg_name (i := 1) sc_is_table.nd rfl (.inl rfl))) (fun _ _ _ _ _ => pts_nil) (fun _ _ _ _ _ => (by exact (pi_tupK (K := K) (pv 1)))) (fun _ _ _ _ _ => (pg_name (i := 2) sc_is_table.nd rfl (.inl rfl))) (fun _ _ _ _ _ => pts_nil) (fun _ _ _ _ _ => (pe_cmpR op_le (pe_callB call_abs (by rfl) T.n_abs (by decide +kernel) (by exact (pa_cons (pv 2) pa_nil))) (pe_glob (v := .int 1000) rfl T.m_MOST_GAIN ⟨_, rfl⟩) (nomark _))) )) pa_nil)))))), ?_⟩
  · obtain ⟨x, b, rfl, _⟩ := h
    rfl
  · obtain ⟨x, b, rfl, hx, hQ⟩ := h
    walk_at "rd"
    have isT : ∀ {a : Addr} {xs : List V} {R : VK}, Tup H a xs → R (.bl true) H → rIsi K [.ref a, .ty "tuple"] H R := fun h q => ⟨_, _, _, _, true, rfl, .ty "tuple", h.ty, kit_ty (by decide +kernel), q⟩
    cases hx with
    | ntp ty q =>
      refine ⟨_, _, _, _, _, rfl, .ty "tuple", ty, kit_ty q, ?_⟩
      walk_at "rd"
      exact hQ H (Same.refl H)
    | @len a xs h l =>
      refine isT h ?_
      walk_at "rd"
      refine iteF' rfl ?_
      walk_at "rd"
      refine rd_chain ?_
      walk_at "rd"
      refine rd_lenTup h ?_
      walk_at "rd"
      by_cases c : 1 ≤ xs.length
      · rw [decide_eq_true (by omega : (1 : Int) ≤ ((xs.length : Nat) : Int))]
        refine iteT' rfl ?_
        walk_at "rd"
        rw [decide_eq_false (by omega : ¬ ((xs.length : Nat) : Int) ≤ 4)]
        walk_at "rd"
        exact hQ H (Same.refl H)
      · rw [decide_eq_false (by omega : ¬ (1 : Int) ≤ ((xs.length : Nat) : Int))]
        refine iteF' rfl ?_
        walk_at "rd"
        exact hQ H (Same.refl H)
    | @no a xs h l1 l4 r =>
      refine isT h ?_
      walk_at "rd"
      refine iteF' rfl ?_
      walk_at "rd"
      refine rd_chain ?_
      walk_at "rd"
      refine rd_lenTup h ?_
      walk_at "rd"
      rw [decide_eq_true (by omega : (1 : Int) ≤ ((xs.length : Nat) : Int))]
      refine iteT' rfl ?_
      walk_at "rd"
      rw [decide_eq_true (by omega : ((xs.length : Nat) : Int) ≤ 4)]
      walk_at "rd"
      refine iteF' rfl ?_
      walk_at "rd"
      refine rd_lenTup h ?_
      walk_at "rd"
      refine rd_lenTup h ?_
      walk_at "rd"
      refine ⟨xs.length, xs.length, _, _, rfl, by omega, by omega, r, fun H1 S1 => ?_⟩
      walk_at "rd"
      exact hQ H1 S1
    | @tab a W k h l r k1 k4 =>
      have h0 := h
      obtain ⟨qs, hq, hp⟩ := h
      have lq := paired_len hp
      refine isT hq ?_
      walk_at "rd"
      refine iteF' rfl ?_
      walk_at "rd"
      refine rd_chain ?_
      walk_at "rd"
      refine rd_lenTup hq ?_
      walk_at "rd"
      rw [List.length_map, lq, l]
      rw [decide_eq_true (by omega : (1 : Int) ≤ ((k : Nat) : Int))]
      refine iteT' rfl ?_
      walk_at "rd"
      rw [decide_eq_true (by omega : ((k : Nat) : Int) ≤ 4)]
      walk_at "rd"
      refine iteF' rfl ?_
      walk_at "rd"
      refine rd_lenTup hq ?_
      walk_at "rd"
      refine rd_lenTup hq ?_
      walk_at "rd"
      rw [List.length_map, lq, l]
      refine ⟨k, k, _, _, rfl, by omega, by omega, h0.rows l r, fun H1 S1 => ?_⟩
      walk_at "rd"
      refine iteF' rfl ?_
      walk_at "rd"
      unfold tLc2
      walk_at "rd"
      refine ⟨a, rfl, ⟨_, (hq.same S1).sq⟩, fun D hD => ?_⟩
      refine it_wk (walk_tup (K := K) (xs := qs.map V.ref)) (fun i H' => Same H1 H' ∧ ∃ bs : List Bool, H' D = some (.lst (bs.map V.bl)) ∧ bs.length ≤ 10 * i ∧ bs.all id = okT (W.take i))
        ⟨Same.fresh hD, [], upd_same, Nat.zero_le _, rfl⟩ (fun i H' _ p => ((hq.same S1).same p.1).sq) (fun i v H2 H3 hi p y => ?_) (fun H2 p => ?_)
      · obtain ⟨S2, bs, hbs, lbs, ebs⟩ := p
        obtain ⟨rfl, hv⟩ := y
        rw [List.getElem?_map] at hv
        obtain ⟨q, hq1, rfl⟩ := Option.map_eq_some_iff.mp hv
        obtain ⟨row, hw, hr⟩ := paired_get hp hq1
        have hr2 := hr.same (S1.trans S2)
        have lr := r row (List.mem_of_getElem? hw)
        rw [List.length_map] at hi
        walk_at "rd"
        refine ⟨rfl, ?_⟩
        walk_at "rd"
        refine ⟨q, rfl, ⟨_, hr2.sq⟩, ?_⟩
        have e1 : ∀ bs : List Bool, okT (W.take (i + 1)) = (okT (W.take i) && row.all fun x => decide ((if x < 0 then -x else x) ≤ 1000)) := fun bs => by
          unfold okT
          rw [List.take_succ, hw, List.all_append]
          simp
        refine it_wk (walk_tup (K := K) (xs := row.map V.int)) (fun j H' => Same H1 H' ∧ ∃ bs : List Bool, H' D = some (.lst (bs.map V.bl)) ∧ bs.length ≤ 10 * i + j ∧ bs.all id = (okT (W.take i) && (row.take j).all fun x => decide ((if x < 0 then -x else x) ≤ 1000)))
          ⟨S2, bs, hbs, by omega, by rw [ebs]; simp⟩ (fun j H' _ p => (hr.same (S1.trans p.1)).sq) (fun j v H4 H5 hj p y => ?_) (fun H4 p => ?_)
        · obtain ⟨S4, cs, hcs, lcs, ecs⟩ := p
          obtain ⟨rfl, hv2⟩ := y
          rw [List.getElem?_map] at hv2
          obtain ⟨x, hx1, rfl⟩ := Option.map_eq_some_iff.mp hv2
          rw [List.length_map] at hj
          walk_at "rd"
          refine ⟨rfl, ?_⟩
          walk_at "rd"
          refine ⟨_, hcs, ?_, same_put S4 hD, cs ++ [decide ((if x < 0 then -x else x) ≤ 1000)], by rw [upd_same, List.map_append]; rfl, by rw [List.length_append]; simp; omega, ?_⟩
          · rw [List.length_map]
            exact Nat.lt_of_le_of_lt (by omega : cs.length ≤ 1000) (by decide)
          · rw [List.all_append, ecs, List.take_succ, hx1, List.all_append]
            simp [Bool.and_assoc]
        · obtain ⟨S4, cs, hcs, lcs, ecs⟩ := p
          rw [List.length_map] at lcs ecs
          refine ⟨S4, cs, hcs, by omega, ?_⟩
          rw [ecs, e1 cs, List.take_of_length_le (Nat.le_refl _)]
      · obtain ⟨S2, bs, hbs, lbs, ebs⟩ := p
        rw [List.length_map, lq, List.take_of_length_le (Nat.le_refl _)] at ebs
        walk_at "rd"
        refine rd_all hbs ?_
        rw [ebs]
        exact hQ H2 (S1.trans S2)
end
end K69

namespace K69
open PySem PySem.Spec PyProof.Rows L2 KX LamX
/-! ### what stays while the deal goes on: all but what lists hold -/
structure Kept (H H' : Hp) : Prop where
  nl : ∀ a o, H a = some o → (∀ xs, o ≠ .lst xs) → (∀ ps, o ≠ .tbl ps) → H' a = some o
  ls : ∀ a xs, H a = some (.lst xs) → ∃ ys, H' a = some (.lst ys)
theorem Kept.refl {H : Hp} : Kept H H := ⟨fun _ _ h _ _ => h, fun _ xs h => ⟨xs, h⟩⟩
theorem Kept.trans {H H1 H2 : Hp} (a : Kept H H1) (b : Kept H1 H2) : Kept H H2 :=
  ⟨fun c o h n m => b.nl c o (a.nl c o h n m) n m, fun c xs h => by obtain ⟨ys, e⟩ := a.ls c xs h; exact b.ls c ys e⟩
theorem Kept.same {H H' : Hp} (s : Same H H') : Kept H H' := ⟨fun a o h _ _ => s a o h, fun a xs h => ⟨xs, s a _ h⟩⟩
theorem Kept.fix {H H' : Hp} {p q : Addr} (f : Fix p q H H') (d : Deal H p q) (d' : Deal H' p q) : Kept H H' := by
  refine ⟨fun a o h n _ => f.keep d h n, fun a xs h => ?_⟩
  obtain ⟨ns, b, e⟩ := d'
  by_cases h1 : a = p
  · rw [h1]; exact ⟨_, e.hp⟩
  · by_cases h2 : a = q
    · rw [h2]; exact ⟨_, e.hq⟩
    · exact ⟨xs, f a _ h1 h2 h⟩
theorem Kept.upd {H : Hp} {l : Addr} {xs ys : List V} (h : H l = some (.lst xs)) : Kept H (L2.upd H l (.lst ys)) := by
  refine ⟨fun a o e n _ => ?_, fun a zs e => ?_⟩
  · rw [upd_ne (fun z => by rw [z, h] at e; exact n xs (Option.some.inj e).symm)]; exact e
  · by_cases z : a = l
    · rw [z]; exact ⟨ys, upd_same⟩
    · exact ⟨zs, by rw [upd_ne z]; exact e⟩
theorem Kept.extN {H H' : Hp} (e : ExtN H H') : Kept H H' := ⟨fun a o h _ m => e a o h m, fun a xs h => ⟨xs, e a _ h fun ps z => nomatch z⟩⟩
theorem tyx_kept {K : PySem.W.Frag} {H H' : Hp} {x : V} {t : Value} (h : TyX K H x t) (s : Kept H H') : TyX K H' x t := by
  have g : ∀ {a o}, H a = some o → (∀ xs, o ≠ .lst xs) → (∀ ps, o ≠ .tbl ps) → H' a = some o := fun h n m => s.nl _ _ h n m
  cases h with
  | base h =>
    refine .base ?_
    cases h with
    | lst e =>
      obtain ⟨ys, e'⟩ := s.ls _ _ e
      exact .lst e'
    | frz e => exact .frz (g e (fun _ z => by cases z) fun _ z => by cases z)
    | tup e => exact .tup (g e (fun _ z => by cases z) fun _ z => by cases z)
    | dK e => exact .dK (g e (fun _ z => by cases z) fun _ z => by cases z)
    | dT e => exact .dT (g e (fun _ z => by cases z) fun _ z => by cases z)
    | ins e a b c d f => exact .ins (g e (fun _ z => by cases z) fun _ z => by cases z) a b c d f
    | _ => constructor
  | byt b => exact .byt b
  | set e => exact .set (g e (fun _ z => by cases z) fun _ z => by cases z)
  | kList e c => exact .kList e c
  | kTuple e c => exact .kTuple e c
  | kDict e c => exact .kDict e c
  | fTuple e => exact .fTuple (g e (fun _ z => by cases z) fun _ z => by cases z)
  | fDict e => exact .fDict (g e (fun _ z => by cases z) fun _ z => by cases z)
theorem tup_kept {H H' : Hp} {a : Addr} {xs : List V} (h : Tup H a xs) (s : Kept H H') : Tup H' a xs := by
  rcases h with h | h
  · exact .inl (s.nl _ _ h (fun _ z => by cases z) fun _ z => by cases z)
  · obtain ⟨o, h⟩ := h
    exact .inr ⟨o, s.nl _ _ h (fun _ z => by cases z) fun _ z => by cases z⟩
theorem kin_kept {K : PySem.W.Frag} {H H' : Hp} {x : V} {o : Option Int} (h : Kin K H x o) (s : Kept H H') : Kin K H' x o := by
  cases h with
  | int i => exact .int i
  | oth t h1 h2 h3 => exact .oth (tyx_kept t s) h1 h2 h3
theorem RowIs.kept {K : PySem.W.Frag} {H H' : Hp} {k : Nat} {x : V} {b : Bool} (h : RowIs K H k x b) (s : Kept H H') : RowIs K H' k x b := by
  cases h with
  | ntp t q => exact .ntp (tyx_kept t s) q
  | len h l => exact .len (tup_kept h s) l
  | ok h l p => exact .ok (tup_kept h s) l (paired_mono p fun _ _ z => kin_kept z s)
theorem RowsIs.kept {K : PySem.W.Frag} {H H' : Hp} {k m : Nat} {x : V} {b : Bool} (h : RowsIs K H k m x b) (s : Kept H H') : RowsIs K H' k m x b := by
  cases h with
  | ntp t q => exact .ntp (tyx_kept t s) q
  | len h l => exact .len (tup_kept h s) l
  | ok h l p => exact .ok (tup_kept h s) l (paired_mono p fun _ _ z => z.kept s)
theorem TabAt.kept {H H' : Hp} {t : Addr} {W : List (List Int)} (h : TabAt H t W) (s : Kept H H') : TabAt H' t W := by
  obtain ⟨qs, a, b⟩ := h
  exact ⟨qs, tup_kept a s, paired_mono b fun _ _ z => tup_kept z s⟩
theorem EvIs.kept {K : PySem.W.Frag} {H H' : Hp} {k : Nat} {x : V} {b : Bool} (h : EvIs K H k x b) (s : Kept H H') : EvIs K H' k x b := by
  cases h with
  | no r => exact .no (r.kept s)
  | tab h l r => exact .tab (h.kept s) l r
theorem TbIs.kept {K : PySem.W.Frag} {H H' : Hp} {x : V} {b : Bool} (h : TbIs K H x b) (s : Kept H H') : TbIs K H' x b := by
  cases h with
  | ntp t q => exact .ntp (tyx_kept t s) q
  | len h l => exact .len (tup_kept h s) l
  | no h l1 l4 r => exact .no (tup_kept h s) l1 l4 (r.kept s)
  | tab h l r k1 k4 => exact .tab (h.kept s) l r k1 k4
/-! ### spoilt tables -/
theorem ty_list {K : PySem.W.Frag} {H : Hp} {a : Addr} {xs : List V} (h : H a = some (.lst xs)) : TyX K H (.ref a) (.type "list") := .base (.lst h)
theorem k_list : kitB "list" "tuple" = some false := by decide +kernel
theorem k_int : kitB "int" "tuple" = some false := by decide +kernel
theorem k_non : kitB "NoneType" "tuple" = some false := by decide +kernel
theorem k_str : kitB "str" "tuple" = some false := by decide +kernel
theorem kn_non {K : PySem.W.Frag} {H : Hp} : Kin K H .non none := .oth (b1 := false) (b2 := false) (.base .non) (by decide +kernel) (by decide +kernel) rfl
theorem kn_bl {K : PySem.W.Frag} {H : Hp} (b : Bool) : Kin K H (.bl b) none := .oth (b1 := true) (b2 := true) (.base (.bl b)) (by decide +kernel) (by decide +kernel) rfl
theorem kn_str {K : PySem.W.Frag} {H : Hp} (x : Str) : Kin K H (.str x) none := .oth (b1 := false) (b2 := false) (.base (.str x)) (by decide +kernel) (by decide +kernel) rfl
theorem kn_tup {K : PySem.W.Frag} {H : Hp} {a : Addr} {xs : List V} (h : Tup H a xs) : Kin K H (.ref a) none := .oth (b1 := false) (b2 := false) h.ty (by decide +kernel) (by decide +kernel) rfl
theorem paired_set {α β : Type} {F : α → β → Prop} {l : List α} {m : List β} {a : α} {b : β} (h : Paired F l m) (f : F a b) : ∀ i : Nat, Paired F (l.set i a) (m.set i b) := by
  induction h with
  | nil => intro i; exact .nil
  | cons c t ih =>
    intro i
    cases i with
    | zero => exact .cons f t
    | succ i => exact .cons c (ih i)
theorem all_set_false {bs : List Bool} {i : Nat} (h : i < bs.length) : (bs.set i false).all id = false := by
  rw [List.all_eq_false]
  exact ⟨false, List.mem_set h _, by decide⟩
theorem cut_set {α : Type} (xs : List α) {i : Nat} (y : α) (h : i < xs.length) : (xs.take i ++ [y]) ++ xs.drop (i + 1) = xs.set i y := by
  rw [List.set_eq_take_append_cons_drop, if_pos h, List.append_assoc]; rfl
theorem row_bad {K : PySem.W.Frag} {H : Hp} {k : Nat} {a : Addr} {r : List Int} {c : Nat} {x : V} (h : Tup H a ((r.map V.int).set c x)) (l : r.length = k) (hc : c < k) (kx : Kin K H x none) : RowIs K H k (.ref a) false := by
  have z : RowIs K H k (.ref a) (((r.map some).set c none).all Option.isSome) := .ok h (by rw [List.length_set, List.length_map]; exact l) (paired_set (kin_ints K H r) kx c)
  have e : ((r.map some).set c none).all Option.isSome = false := by
    rw [List.all_eq_false]
    exact ⟨none, List.mem_set (by rw [List.length_map]; omega) _, by decide⟩
  rwa [e] at z
theorem tab_rowis {K : PySem.W.Frag} {H : Hp} {k : Nat} {qs : List Addr} {W : List (List Int)} (z : Paired (RowT H) qs W) (hr : ∀ r ∈ W, r.length = k) : Paired (RowIs K H k) (qs.map V.ref) (W.map fun _ => true) := by
  induction z with
  | nil => exact .nil
  | @cons q r qs W a _ ih =>
    refine .cons ?_ (ih fun r h => hr r (List.mem_cons_of_mem _ h))
    have e : (r.map some).all Option.isSome = true := by simp
    have z : RowIs K H k (.ref q) ((r.map some).all Option.isSome) := .ok a (by rw [List.length_map]; exact hr r List.mem_cons_self) (kin_ints K H r)
    rwa [e] at z
theorem rows_bad {K : PySem.W.Frag} {H : Hp} {k m i : Nat} {t : Addr} {qs : List Addr} {W : List (List Int)} {y : V} (p : Paired (RowT H) qs W) (hr : ∀ r ∈ W, r.length = k) (l : W.length = m) (hi : i < m) (h : Tup H t ((qs.map V.ref).set i y)) (b : RowIs K H k y false) : RowsIs K H k m (.ref t) false := by
  have lq := paired_len p
  have z : RowsIs K H k m (.ref t) (((W.map fun _ => true).set i false).all id) := .ok h (by rw [List.length_set, List.length_map, lq, l]) (paired_set (tab_rowis p hr) b i)
  rwa [all_set_false (by rw [List.length_map, l]; exact hi)] at z
theorem evenB_iff {k : Nat} {M : List (List Int)} : evenB k M = true ↔ ∀ a b : Nat, a < k → b < a → at2 M (a : Nat) (b : Nat) = at2 M (b : Nat) (a : Nat) := by
  unfold evenB
  rw [List.all_eq_true]
  constructor
  · intro h a b ha hb
    have := h a (List.mem_range.mpr ha)
    rw [List.all_eq_true] at this
    exact of_decide_eq_true (this b (List.mem_range.mpr hb))
  · intro h a ha
    rw [List.all_eq_true]
    intro b hb
    exact decide_eq_true (h a b (List.mem_range.mp ha) (List.mem_range.mp hb))
end K69

namespace K69
open PySem PySem.Spec PyProof.Rows L2 KX
local macro_rules | `(tactic| walk_at "rd1") => `(tactic| first
  | with_reducible refine rd_seq ?_
  | with_reducible refine rd_for ?_
  | with_reducible refine rd_lc ?_
  | with_reducible refine rd_asg ?_
  | ((with_reducible refine' rd_var ?rdv ?_); (case rdv => exact rfl))
  | with_reducible refine rd_c ?_
  | with_reducible refine rd_op ?_
  | with_reducible refine rd_un ?_
  | with_reducible refine rd_cons ?_
  | with_reducible refine rd_nil ?_
  | with_reducible refine rd_call ?_
  | with_reducible refine rd_cb ?_
  | with_reducible refine rd_tB ?_
  | with_reducible refine rd_test ?_
  | with_reducible refine rd_bl ?_
  | with_reducible refine rd_rI0 ?_
  | with_reducible refine rd_eqI ?_
  | with_reducible refine rd_neI ?_
  | with_reducible refine rd_rU ?_
  | with_reducible refine rd_name ?_
  | with_reducible refine rd_ifs ?_
  | with_reducible refine rd_and ?_
  | with_reducible refine rd_or ?_
  | with_reducible refine rd_not ?_
  | with_reducible refine rd_yes ?_
  | with_reducible refine rd_andV ?_
  | with_reducible refine rd_orV ?_
  | with_reducible refine rd_notV ?_
  | with_reducible refine rd_if ?_
  | with_reducible refine rd_isN ?_
  | with_reducible refine rd_iT ?_
  | with_reducible refine rd_iF ?_
  | with_reducible refine rd_ret ?_
  | with_reducible refine rd_retN ?_
  | with_reducible refine rd_drop ?_
  | with_reducible refine rd_next ?_
  | with_reducible refine rd_cont ?_
  | with_reducible refine rd_brk ?_
  | with_reducible refine rd_nx ?_
  | with_reducible refine rd_rt ?_
  | with_reducible refine rd_ct ?_
  | with_reducible refine rd_bk ?_
  | with_reducible refine rd_par ?_
  | with_reducible refine rd_par3 ?_
  | with_reducible refine rd_par2 ?_
  | with_reducible refine rd_par33 ?_
  | with_reducible refine rd_gcons ?_
  | with_reducible refine rd_gnil ?_
  | with_reducible refine rd_sub ?_
  | with_reducible refine rd_tup ?_
  | with_reducible refine rd_lst ?_
  | ((with_reducible refine rd_tupT ?hl ?_); (case hl => exact Nat.le_of_ble_eq_true rfl))
  | ((with_reducible refine rd_lstT ?hl ?_); (case hl => exact Nat.le_of_ble_eq_true rfl))
  | with_reducible refine rd_bm ?_
  | with_reducible refine rd_bm0 ?_
  | with_reducible refine rd_sl ?_
  | with_reducible refine rd_noP ?_
  | with_reducible refine rd_part ?_
  | with_reducible refine rd_int ?_
  | with_reducible refine rd_int1 ?_
  | with_reducible refine rd_fld ?_
  | with_reducible refine rd_then ?_
  | with_reducible refine rd_raise ?_
  | with_reducible refine rd_one ?_
  | with_reducible refine rd_sfld ?_
  | with_reducible refine rd_ilist ?_
  | with_reducible refine rd_itup ?_
  | with_reducible refine rd_rng1 ?_
  | with_reducible refine rd_enum ?_
  | with_reducible refine rd_enumT ?_)
local macro_rules | `(tactic| walk_at "rd") => `(tactic| repeat (walk_at "rd1"))
/-- what is raised: the class, the index -/
def ErrAt (C : Addr) (E : XK) (H : Hp) (i : Int) : Prop := ∀ H' d, Same H H' → H' d = none → E (.ref C) (some d) (upd H' d (.xd [(("at" : Str), .int i)]))
def spCT (K : PySem.W.Frag) (CS : Addr) : L2.Sp := fun vs H Q E => ∃ (x : V) (b : Bool), vs = [x] ∧ TbIs K H x b ∧ (b = false → ErrAt CS E H 0) ∧ (b = true → ∀ H', Same H H' → Q .non H')
/-- a square table of one to four modes -/
structure Tk (k : Nat) (W : List (List Int)) : Prop where
  l : W.length = k
  r : ∀ r ∈ W, r.length = k
  k1 : 1 ≤ k
  k4 : k ≤ 4
theorem Tk.row {k : Nat} {W : List (List Int)} (g : Tk k W) {a : Int} (h0 : 0 ≤ a) (h1 : a < (k : Nat)) : (rowOf W a).length = k := g.r _ (rowOf_mem' h0 (by rw [g.l]; exact h1))
def gainI (W : List (List Int)) (m : Int) (ns : List Int) : Int := (ns.map (at2 W m)).sum
def rsum (W : List (List Int)) (a c b e : Int) : Int := (at2 W c b - at2 W a b) + (at2 W a e - at2 W c e) + (at2 W e c - at2 W b c) + (at2 W b a - at2 W e a)
theorem gain_one (W : List (List Int)) (m n : Int) : gainI W m [n] = at2 W m n := by
  unfold gainI
  simp
/-- numbers of modes -/
abbrev Lt (k : Nat) (a : Int) : Prop := 0 ≤ a ∧ a < (k : Nat)
def spGain (K : PySem.W.Frag) : L2.Sp := fun vs H Q _ => ∃ (t v q : Addr) (k : Nat) (W : List (List Int)) (m : Int) (ns : List Int), vs = [.ref t, .ref v] ∧ TabAt H t W ∧ Tk k W ∧ Tup H v [.int m, .ref q] ∧ RowT H q ns ∧ Lt k m ∧ (∀ n ∈ ns, Lt k n) ∧ ns.length < 100 ∧
  ∀ H', Same H H' → Q (.int (gainI W m ns)) H'
def spLead (K : PySem.W.Frag) : L2.Sp := fun vs H Q _ => ∃ (t v q : Addr) (k : Nat) (W : List (List Int)) (m c : Int) (ns : List Int), vs = [.ref t, .ref v, .int c] ∧ TabAt H t W ∧ Tk k W ∧ Tup H v [.int m, .ref q] ∧ RowT H q ns ∧ Lt k m ∧ Lt k c ∧ (∀ n ∈ ns, Lt k n) ∧ ns.length < 100 ∧
  ∀ H', Same H H' → Q (.int (gainI W c ns - gainI W m ns)) H'
def spRound (K : PySem.W.Frag) : L2.Sp := fun vs H Q _ => ∃ (t : Addr) (k : Nat) (W : List (List Int)) (a c b e : Int), vs = [.ref t, .int a, .int c, .int b, .int e] ∧ TabAt H t W ∧ Tk k W ∧ Lt k a ∧ Lt k c ∧ Lt k b ∧ Lt k e ∧
  ∀ H', Same H H' → Q (.int (rsum W a c b e)) H'
section
variable {P : Program} {w : World} {K : PySem.W.Frag} {mg : Str → Option Value} {base : Heap} (T : TX K mg)
theorem G_check_table : FnOk P w K mg base (L2.CX P w) 4 T.f_check_table T.d_check_table ["value"] (spCT K T.c_InvalidScore) := by
  refine T.F_check_table.okX sc_check_table (fun vs H Q E h => ?_) fun cdv A outer s H vs Q E hr h => ⟨_, (pss_one (ps_if (pt_not (pt_val (pe_call (G_is_table T) (hr.mono (by decide)) (by rfl) T.m_is_table T.F_is_table.kp T.b_is_table .nil pass0 (by exact (pa_cons (pv 0) pa_nil))))) (pss_one (ps_raiseErrZ rfl T.E_InvalidScore hr (takes_of rfl rfl rfl rfl) (by exact (pa_cons pe_int pa_nil)))) pss_nil)), ?_⟩
  · obtain ⟨x, b, rfl, _⟩ := h
    rfl
  · obtain ⟨x, b, rfl, hx, h1, h2⟩ := h
    walk_at "rd"
    refine ⟨x, b, rfl, hx, fun H1 S1 => ?_⟩
    walk_at "rd"
    cases b with
    | false =>
      refine iteT' rfl ?_
      walk_at "rd"
      exact fun d hd => h1 rfl H1 d S1 hd
    | true =>
      refine iteF' rfl ?_
      walk_at "rd"
      exact h2 rfl H1 S1
theorem G_gain : FnOk P w K mg base CX0 1 T.f_gain T.d_gain ["table", "view"] (spGain K) := by
  refine T.F_gain.ok sc_gain (fun vs H Q E h => ?_) fun cdv A outer s H vs Q E hr h => ⟨_, (pss_one (ps_ret (pe_callB (cr_sumK (K := K) rfl) (by rfl) T.n_sum (by decide +kernel) (by exact (pa_cons (by exact (pe_lc (own := [("other", 2)]) (by rfl) sc_gain.nd (pi_tupK (K := K) (pe_ix (ix_tupK (K := K)) (pv 1) pe_int (fun _ _ => rfl))) (blkOk_by (own := [("other", 2)]) (N := N_gain) (sc := defScope s_gain) (by decide +kernel)) (fun _ _ _ _ _ => (pg_name (i := 2) sc_gain.nd rfl (.inl rfl))) (fun _ _ _ _ _ => pts_nil) (fun _ _ _ _ _ => (pe_ix (ix_tupK (K := K)) (pe_ix (ix_tupK (K := K)) (pv 0) (pe_ix (ix_tupK (K := K)) (pv 1) pe_int (fun _ _ => rfl)) (fun _ _ => rfl)) (pv 2) (fun _ _ => rfl))) )) pa_nil))))), ?_⟩
  · obtain ⟨t, v, q, k, W, m, ns, rfl, _⟩ := h
    rfl
  · obtain ⟨t, v, q, k, W, m, ns, rfl, hw, g, hv, hq, hm, hn, ln, hQ⟩ := h
    walk_at "rd"
    refine rd_ixT hv rfl ?_
    refine ⟨q, rfl, ⟨_, hq.sq⟩, fun D hD => ?_⟩
    refine lcv_tup (xs := ns.map V.int) ((ns.map (at2 W m)).map V.int) hq (by simp) (by simp; omega) hD (fun i x z H1 hx hz S1 R hR => ?_) (fun H1 S1 hD1 => ?_)
    · rw [List.map_map, List.getElem?_map] at hz
      obtain ⟨e, he, rfl⟩ := Option.map_eq_some_iff.mp hz
      rw [List.getElem?_map] at hx
      obtain ⟨e', he', rfl⟩ := Option.map_eq_some_iff.mp hx
      rw [he] at he'
      cases he'
      have b := hn e (List.mem_of_getElem? he)
      walk_at "rd"
      refine ⟨rfl, ?_⟩
      walk_at "rd"
      refine rd_ixT (hv.same S1) rfl ?_
      refine rd_at2 (hw.same S1) hm.1 (by rw [g.l]; exact hm.2) fun r hr => ?_
      walk_at "rd"
      refine rd_rowAt hr b.1 (by rw [g.row hm.1 hm.2]; exact b.2) ?_
      exact hR H1 (Same.refl H1)
    · walk_at "rd"
      refine rd_sum hD1 ?_
      exact hQ H1 S1
theorem G_lead : FnOk P w K mg base CX0 2 T.f_lead T.d_lead ["table", "view", "mode"] (spLead K) := by
  refine T.F_lead.ok sc_lead (fun vs H Q E h => ?_) fun cdv A outer s H vs Q E hr h => ⟨_, (pss_one (ps_ret (pe_op op_sub (pe_call (G_gain T) (hr.mono (by decide)) (by rfl) T.m_gain T.F_gain.kp T.b_gain .nil pass0 (by exact (pa_cons (pv 0) (pa_cons (pe_tup (pa_cons (pv 2) (pa_cons (pe_ix (ix_tupK (K := K)) (pv 1) pe_int (fun _ _ => rfl)) pa_nil))) pa_nil)))) (pe_call (G_gain T) (hr.mono (by decide)) (by rfl) T.m_gain T.F_gain.kp T.b_gain .nil pass0 (by exact (pa_cons (pv 0) (pa_cons (pv 1) pa_nil))))))), ?_⟩
  · obtain ⟨t, v, q, k, W, m, c, ns, rfl, _⟩ := h
    rfl
  · obtain ⟨t, v, q, k, W, m, c, ns, rfl, hw, g, hv, hq, hm, hc, hn, ln, hQ⟩ := h
    walk_at "rd"
    refine rd_ixT hv rfl ?_
    walk_at "rd"
    intro v1 H1 n1 S1 e1
    walk_at "rd"
    refine ⟨t, v1, q, k, W, c, ns, rfl, hw.same S1, g, Tup.of e1, rowT_same hq S1, hc, hn, ln, fun H2 S2 => ?_⟩
    walk_at "rd"
    have S12 := S1.trans S2
    refine ⟨t, v, q, k, W, m, ns, rfl, hw.same S12, g, hv.same S12, rowT_same hq S12, hm, hn, ln, fun H3 S3 => ?_⟩
    walk_at "rd"
    exact hQ H3 (S12.trans S3)
theorem G_round_sum : FnOk P w K mg base CX0 3 T.f_round_sum T.d_round_sum ["table", "a", "c", "b", "e"] (spRound K) := by
  refine T.F_round_sum.ok sc_round_sum (fun vs H Q E h => ?_) fun cdv A outer s H vs Q E hr h => ⟨_, (pss_cons (ps_set (i := 5) sc_round_sum.nd rfl (.inl rfl) (pe_op op_add (pe_call (G_lead T) (hr.mono (by decide)) (by rfl) T.m_lead T.F_lead.kp T.b_lead .nil pass0 (by exact (pa_cons (pv 0) (pa_cons (pe_tup (pa_cons (pv 1) (pa_cons (pe_tup (pa_cons (pv 3) pa_nil)) pa_nil))) (pa_cons (pv 2) pa_nil))))) (pe_call (G_lead T) (hr.mono (by decide)) (by rfl) T.m_lead T.F_lead.kp T.b_lead .nil pass0 (by exact (pa_cons (pv 0) (pa_cons (pe_tup (pa_cons (pv 2) (pa_cons (pe_tup (pa_cons (pv 4) pa_nil)) pa_nil))) (pa_cons (pv 1) pa_nil))))))) (pss_one (ps_ret (pe_op op_add (pe_op op_add (pv 5) (pe_call (G_lead T) (hr.mono (by decide)) (by rfl) T.m_lead T.F_lead.kp T.b_lead .nil pass0 (by exact (pa_cons (pv 0) (pa_cons (pe_tup (pa_cons (pv 3) (pa_cons (pe_tup (pa_cons (pv 2) pa_nil)) pa_nil))) (pa_cons (pv 4) pa_nil)))))) (pe_call (G_lead T) (hr.mono (by decide)) (by rfl) T.m_lead T.F_lead.kp T.b_lead .nil pass0 (by exact (pa_cons (pv 0) (pa_cons (pe_tup (pa_cons (pv 4) (pa_cons (pe_tup (pa_cons (pv 1) pa_nil)) pa_nil))) (pa_cons (pv 3) pa_nil))))))))), ?_⟩
  · obtain ⟨t, k, W, a, c, b, e, rfl, _⟩ := h
    rfl
  · obtain ⟨t, k, W, a, c, b, e, rfl, hw, g, la, lc, lb, le, hQ⟩ := h
    have one : ∀ {H0 : Hp} {q : Addr} {n : Int}, H0 q = some (.tup [.int n]) → RowT H0 q [n] := fun h => Tup.of h
    have all1 : ∀ {n : Int}, Lt k n → ∀ x ∈ [n], Lt k x := fun h x hx => by rw [List.mem_singleton.mp hx]; exact h
    walk_at "rd"
    intro q1 H1 _ S1 e1
    walk_at "rd"
    intro v1 H2 _ S2 e2
    walk_at "rd"
    have s2 := S1.trans S2
    refine ⟨t, v1, q1, k, W, a, c, [b], rfl, hw.same s2, g, Tup.of e2, one (S2 _ _ e1), la, lc, all1 lb, (by show 1 < 100; decide), fun H3 S3 => ?_⟩
    have s3 := s2.trans S3
    walk_at "rd"
    intro q2 H4 _ S4 e4
    walk_at "rd"
    intro v2 H5 _ S5 e5
    walk_at "rd"
    have s5 := (s3.trans S4).trans S5
    refine ⟨t, v2, q2, k, W, c, a, [e], rfl, hw.same s5, g, Tup.of e5, one (S5 _ _ e4), lc, la, all1 le, (by show 1 < 100; decide), fun H6 S6 => ?_⟩
    have s6 := s5.trans S6
    walk_at "rd"
    intro q3 H7 _ S7 e7
    walk_at "rd"
    intro v3 H8 _ S8 e8
    walk_at "rd"
    have s8 := (s6.trans S7).trans S8
    refine ⟨t, v3, q3, k, W, b, e, [c], rfl, hw.same s8, g, Tup.of e8, one (S8 _ _ e7), lb, le, all1 lc, (by show 1 < 100; decide), fun H9 S9 => ?_⟩
    have s9 := s8.trans S9
    walk_at "rd"
    intro q4 H10 _ S10 e10
    walk_at "rd"
    intro v4 H11 _ S11 e11
    walk_at "rd"
    have s11 := (s9.trans S10).trans S11
    refine ⟨t, v4, q4, k, W, e, b, [a], rfl, hw.same s11, g, Tup.of e11, one (S11 _ _ e10), le, lb, all1 la, (by show 1 < 100; decide), fun H12 S12 => ?_⟩
    walk_at "rd"
    rw [gain_one, gain_one, gain_one, gain_one, gain_one, gain_one, gain_one, gain_one]
    exact hQ H12 (s11.trans S12)
end
end K69

namespace K69
open PySem PySem.Spec PyProof.Rows L2 KX
local macro_rules | `(tactic| walk_at "rd1") => `(tactic| first
  | with_reducible refine rd_seq ?_
  | with_reducible refine rd_for ?_
  | with_reducible refine rd_lc ?_
  | with_reducible refine rd_asg ?_
  | ((with_reducible refine' rd_var ?rdv ?_); (case rdv => exact rfl))
  | with_reducible refine rd_c ?_
  | with_reducible refine rd_op ?_
  | with_reducible refine rd_un ?_
  | with_reducible refine rd_cons ?_
  | with_reducible refine rd_nil ?_
  | with_reducible refine rd_call ?_
  | with_reducible refine rd_cb ?_
  | with_reducible refine rd_tB ?_
  | with_reducible refine rd_test ?_
  | with_reducible refine rd_bl ?_
  | with_reducible refine rd_rI0 ?_
  | with_reducible refine rd_eqI ?_
  | with_reducible refine rd_neI ?_
  | with_reducible refine rd_rU ?_
  | with_reducible refine rd_name ?_
  | with_reducible refine rd_ifs ?_
  | with_reducible refine rd_and ?_
  | with_reducible refine rd_or ?_
  | with_reducible refine rd_not ?_
  | with_reducible refine rd_yes ?_
  | with_reducible refine rd_andV ?_
  | with_reducible refine rd_orV ?_
  | with_reducible refine rd_notV ?_
  | with_reducible refine rd_if ?_
  | with_reducible refine rd_isN ?_
  | with_reducible refine rd_iT ?_
  | with_reducible refine rd_iF ?_
  | with_reducible refine rd_ret ?_
  | with_reducible refine rd_retN ?_
  | with_reducible refine rd_drop ?_
  | with_reducible refine rd_next ?_
  | with_reducible refine rd_cont ?_
  | with_reducible refine rd_brk ?_
  | with_reducible refine rd_nx ?_
  | with_reducible refine rd_rt ?_
  | with_reducible refine rd_ct ?_
  | with_reducible refine rd_bk ?_
  | with_reducible refine rd_par ?_
  | with_reducible refine rd_par3 ?_
  | with_reducible refine rd_par2 ?_
  | with_reducible refine rd_par33 ?_
  | with_reducible refine rd_gcons ?_
  | with_reducible refine rd_gnil ?_
  | with_reducible refine rd_sub ?_
  | with_reducible refine rd_tup ?_
  | with_reducible refine rd_lst ?_
  | ((with_reducible refine rd_tupT ?hl ?_); (case hl => exact Nat.le_of_ble_eq_true rfl))
  | ((with_reducible refine rd_lstT ?hl ?_); (case hl => exact Nat.le_of_ble_eq_true rfl))
  | with_reducible refine rd_bm ?_
  | with_reducible refine rd_bm0 ?_
  | with_reducible refine rd_sl ?_
  | with_reducible refine rd_noP ?_
  | with_reducible refine rd_part ?_
  | with_reducible refine rd_int ?_
  | with_reducible refine rd_int1 ?_
  | with_reducible refine rd_fld ?_
  | with_reducible refine rd_then ?_
  | with_reducible refine rd_raise ?_
  | with_reducible refine rd_one ?_
  | with_reducible refine rd_sfld ?_
  | with_reducible refine rd_ilist ?_
  | with_reducible refine rd_itup ?_
  | with_reducible refine rd_rng1 ?_
  | with_reducible refine rd_enum ?_
  | with_reducible refine rd_enumT ?_)
local macro_rules | `(tactic| walk_at "rd") => `(tactic| repeat (walk_at "rd1"))
theorem rd_bCl {wi : TI} {g : TG} {tt : TT} {vs : List Nat} {body : (Hp → Prop) → L2.St → Hp → Prop} {Nx : Hp → Prop} {σ : L2.St} {H : Hp} (h : wi σ H fun J H1 => ∃ W : Nat → Nat → Hp → Prop, (∃ m, W 0 m H1) ∧ ∀ j m H, W j m H →
  (J.stop j H ∧ Nx H) ∨ (J.go j H ∧ ∃ N : Hp → Prop, (∀ H', N H' → ∃ m', m' < m ∧ W (j + 1) m' H') ∧ ∀ x H', J.yld j H x H' → g x (wipe σ vs) H' fun σ2 H2 => wipe σ2 vs = wipe σ vs ∧ tt σ2 H2 fun b H3 => if b = true then body N σ2 H3 else N H3)) : bCl wi g tt vs body Nx σ H := h
theorem rd_bEmit {te : TE} {D : Addr} {Nx : Hp → Prop} {σ : L2.St} {H : Hp} (h : te σ H fun y H4 => ∃ acc, H4 D = some (.lst acc) ∧ acc.length < sizeLine ∧ Nx (upd H4 D (.lst (acc ++ [y])))) : bEmit te D Nx σ H := h
theorem rd_rngO {te : TE} {σ : L2.St} {H : Hp} {R : It → Hp → Prop} (h : te σ H fun x H1 => ∃ (a : Addr) (lo hi : Int), x = .ref a ∧ H1 a = some (.rng lo hi) ∧ (-(2 ^ 62) ≤ lo ∧ lo < 2 ^ 62 ∧ -(2 ^ 62) ≤ hi ∧ hi < 2 ^ 62) ∧ R (Itr lo (hi - lo).toNat) H1) : iRngO te σ H R := h
theorem rd_rngV {H : Hp} {Q : VK} {j : Int} (h : NewO H (.rng 0 j) Q) : rRng1 [.int j] H Q := ⟨j, rfl, h⟩
theorem rd_lcB {wi : TI} {g : TG} {tt : TT} {vs : List Nat} {body : Addr → (Hp → Prop) → L2.St → Hp → Prop} {σ : L2.St} {H : Hp} {Q : VK} (h : wi σ H fun J H1 => ∀ D, H1 D = none → ∃ W : Nat → Nat → Hp → Prop, (∃ m, W 0 m (upd H1 D (.lst []))) ∧ ∀ i m H, W i m H →
  (J.stop i H ∧ Q (.ref D) H) ∨ (J.go i H ∧ ∃ N : Hp → Prop, (∀ H', N H' → ∃ m', m' < m ∧ W (i + 1) m' H') ∧ ∀ x H', J.yld i H x H' → g x (wipe σ vs) H' fun σ2 H2 => wipe σ2 vs = wipe σ vs ∧ tt σ2 H2 fun b H3 => if b = true then body D N σ2 H3 else N H3)) : tLcB wi g tt vs body σ H Q := h
/-! ### four modes, in their order -/
abbrev Four := Int × Int × Int × Int
def q1 (k : Nat) (a c b : Int) : List Four := (List.range k).map fun e => (a, c, b, ((e : Nat) : Int))
def q2 (k : Nat) (a c : Int) : List Four := (List.range k).flatMap fun b => q1 k a c ((b : Nat) : Int)
def q3 (k : Nat) (a : Int) : List Four := (List.range k).flatMap fun c => q2 k a ((c : Nat) : Int)
def quads (k : Nat) : List Four := (List.range k).flatMap fun a => q3 k ((a : Nat) : Int)
def rs4 (W : List (List Int)) (q : Four) : Int := rsum W q.1 q.2.1 q.2.2.1 q.2.2.2
def firstQ (k : Nat) (W : List (List Int)) : Option Four := (quads k).find? fun q => decide (rs4 W q ≠ 0)
def FourAt (H : Hp) (q : Addr) (e : Four) : Prop := H q = some (.tup [.int e.1, .int e.2.1, .int e.2.2.1, .int e.2.2.2])
theorem flat_take {α : Type} (f : Nat → List α) (i : Nat) : (List.range (i + 1)).flatMap f = (List.range i).flatMap f ++ f i := by
  rw [List.range_succ, List.flatMap_append]; simp
theorem q1_len (k : Nat) (a c b : Int) : (q1 k a c b).length = k := by unfold q1; simp
theorem flat_len {α : Type} (f : Nat → List α) (m : Nat) (h : ∀ i, (f i).length = m) : ∀ i, ((List.range i).flatMap f).length = i * m
  | 0 => by simp
  | i + 1 => by rw [flat_take, List.length_append, flat_len f m h i, h, Nat.succ_mul]
theorem q2_len (k : Nat) (a c : Int) : (q2 k a c).length = k * k := flat_len _ _ (fun i => q1_len k a c _) k
theorem q3_len (k : Nat) (a : Int) : (q3 k a).length = k * (k * k) := flat_len _ _ (fun i => q2_len k a _) k
theorem quads_len (k : Nat) : (quads k).length = k * (k * (k * k)) := flat_len _ _ (fun i => q3_len k _) k
theorem mem_q1 {k : Nat} {a c b : Int} {q : Four} : q ∈ q1 k a c b ↔ q.1 = a ∧ q.2.1 = c ∧ q.2.2.1 = b ∧ Lt k q.2.2.2 := by
  unfold q1
  rw [List.mem_map]
  constructor
  · rintro ⟨e, he, rfl⟩
    have := List.mem_range.mp he
    exact ⟨rfl, rfl, rfl, show (0 : Int) ≤ ((e : Nat) : Int) by omega, show ((e : Nat) : Int) < (k : Nat) by omega⟩
  · rintro ⟨rfl, rfl, rfl, h0, h1⟩
    exact ⟨q.2.2.2.toNat, List.mem_range.mpr (by omega), by rw [Int.toNat_of_nonneg h0]⟩
theorem mem_q2 {k : Nat} {a c : Int} {q : Four} : q ∈ q2 k a c ↔ q.1 = a ∧ q.2.1 = c ∧ Lt k q.2.2.1 ∧ Lt k q.2.2.2 := by
  unfold q2
  rw [List.mem_flatMap]
  constructor
  · rintro ⟨b, hb, h⟩
    obtain ⟨h1, h2, h3, h4⟩ := mem_q1.mp h
    have := List.mem_range.mp hb
    exact ⟨h1, h2, by rw [h3]; constructor <;> omega, h4⟩
  · rintro ⟨h1, h2, ⟨h3, h4⟩, h5⟩
    exact ⟨q.2.2.1.toNat, List.mem_range.mpr (by omega), mem_q1.mpr ⟨h1, h2, (Int.toNat_of_nonneg h3).symm, h5⟩⟩
theorem mem_q3 {k : Nat} {a : Int} {q : Four} : q ∈ q3 k a ↔ q.1 = a ∧ Lt k q.2.1 ∧ Lt k q.2.2.1 ∧ Lt k q.2.2.2 := by
  unfold q3
  rw [List.mem_flatMap]
  constructor
  · rintro ⟨b, hb, h⟩
    obtain ⟨h1, h2, h3, h4⟩ := mem_q2.mp h
    have := List.mem_range.mp hb
    exact ⟨h1, by rw [h2]; constructor <;> omega, h3, h4⟩
  · rintro ⟨h1, ⟨h3, h4⟩, h5⟩
    exact ⟨q.2.1.toNat, List.mem_range.mpr (by omega), mem_q2.mpr ⟨h1, (Int.toNat_of_nonneg h3).symm, h5⟩⟩
theorem mem_quads {k : Nat} {q : Four} : q ∈ quads k ↔ Lt k q.1 ∧ Lt k q.2.1 ∧ Lt k q.2.2.1 ∧ Lt k q.2.2.2 := by
  unfold quads
  rw [List.mem_flatMap]
  constructor
  · rintro ⟨b, hb, h⟩
    obtain ⟨h1, h2, h3, h4⟩ := mem_q3.mp h
    have := List.mem_range.mp hb
    exact ⟨by rw [h1]; constructor <;> omega, h2, h3, h4⟩
  · rintro ⟨⟨h3, h4⟩, h5⟩
    exact ⟨q.1.toNat, List.mem_range.mpr (by omega), mem_q3.mpr ⟨(Int.toNat_of_nonneg h3).symm, h5⟩⟩
/-- the weights told -/
def movedT (k : Nat) (W : List (List Int)) : List (List Int) := W.map fun r => (List.range k).map fun b => modeAt r ((b : Nat) : Int) + (at2 W ((b : Nat) : Int) 0 - at2 W 0 ((b : Nat) : Int))
def spEW (K : PySem.W.Frag) (CS : Addr) : L2.Sp := fun vs H Q E => ∃ x : V, vs = [x] ∧ ((TbIs K H x false ∧ ErrAt CS E H 0) ∨ ∃ (t : Addr) (k : Nat) (W : List (List Int)), x = .ref t ∧ TabAt H t W ∧ Tk k W ∧ okT W = true ∧
  (∀ q, firstQ k W = some q → ∀ H' r f, Same H H' → H' r = some (.tup [.str "round", .ref f]) → FourAt H' f q → Q (.ref r) H') ∧
  (firstQ k W = none → ∀ H' r u, Same H H' → H' r = some (.tup [.str "weights", .ref u]) → TabAt H' u (movedT k W) → Q (.ref r) H'))
theorem fours_kept {H H' : Hp} {qs : List Addr} {es : List Four} (h : Paired (FourAt H) qs es) (s : Kept H H') : Paired (FourAt H') qs es := paired_mono h fun _ _ z => s.nl _ _ z (fun _ y => by cases y) fun _ y => by cases y
theorem fours_snoc {H : Hp} {t : Addr} {e : Four} {ps : List Addr} {L : List Four} (h : Paired (FourAt H) ps L) (a : FourAt H t e) : Paired (FourAt H) (ps ++ [t]) (L ++ [e]) := paired_append h (.cons a .nil)
/-- the list of four modes under way -/
def Fo (H0 : Hp) (D : Addr) (X : List Four) (H' : Hp) : Prop := Same H0 H' ∧ ∃ ps : List Addr, H' D = some (.lst (ps.map V.ref)) ∧ Paired (FourAt H') ps X
theorem fo_put {H0 H' H4 : Hp} {D t : Addr} {X : List Four} {e : Four} (h : Fo H0 D X H') (hD : H0 D = none) (S : Same H' H4) (ht : FourAt H4 t e) (l : X.length ≤ 1000) :
    ∃ acc, H4 D = some (.lst acc) ∧ acc.length < sizeLine ∧ Fo H0 D (X ++ [e]) (upd H4 D (.lst (acc ++ [.ref t]))) := by
  obtain ⟨S1, ps, hp, pp⟩ := h
  have lp := paired_len pp
  have hp4 := S _ _ hp
  refine ⟨_, hp4, ?_, same_put (S1.trans S) hD, ps ++ [t], by rw [upd_same, List.map_append]; rfl, ?_⟩
  · rw [List.length_map, lp]
    exact Nat.lt_of_le_of_lt l (by decide)
  · exact fours_kept (fours_snoc (fours_kept pp (Kept.same S)) ht) (Kept.upd hp4)
theorem cube {k : Nat} (h : k ≤ 4) : k * k ≤ 16 ∧ k * (k * k) ≤ 64 := by
  have h1 : k * k ≤ 16 := Nat.mul_le_mul h h
  exact ⟨h1, Nat.mul_le_mul h h1⟩
def preQ (k i j l : Nat) : List Four := (((List.range i).flatMap fun a => q3 k ((a : Nat) : Int)) ++ (List.range j).flatMap fun c => q2 k ((i : Nat) : Int) ((c : Nat) : Int)) ++ (List.range l).flatMap fun b => q1 k ((i : Nat) : Int) ((j : Nat) : Int) ((b : Nat) : Int)
theorem pre_len {k i j l n : Nat} (k4 : k ≤ 4) (hi : i < k) (hj : j < k) (hl : l < k) (hn : n < k) : (preQ k i j l).length + n ≤ 1000 := by
  obtain ⟨c1, c2⟩ := cube k4
  unfold preQ
  rw [List.length_append, List.length_append, flat_len _ _ (fun a => q3_len k _), flat_len _ _ (fun a => q2_len k _ _), flat_len _ _ (fun a => q1_len k _ _ _)]
  have := Nat.mul_le_mul (show i ≤ 4 by omega) c2
  have := Nat.mul_le_mul (show j ≤ 4 by omega) c1
  have := Nat.mul_le_mul (show l ≤ 4 by omega) k4
  omega
theorem fo_put4 {H0 H' H4 : Hp} {D t : Addr} {X : List Four} {a c b : Int} {n : Nat} (h : Fo H0 D (X ++ (List.range n).map fun e => (a, c, b, ((e : Nat) : Int))) H') (hD : H0 D = none) (S : Same H' H4) (ht : FourAt H4 t (a, c, b, ((n : Nat) : Int))) (l : X.length + n ≤ 1000) :
    ∃ acc, H4 D = some (.lst acc) ∧ acc.length < sizeLine ∧ Fo H0 D (X ++ (List.range (n + 1)).map fun e => (a, c, b, ((e : Nat) : Int))) (upd H4 D (.lst (acc ++ [.ref t]))) := by
  have z := fo_put h hD S ht (by rw [List.length_append, List.length_map, List.length_range]; exact l)
  rw [List.range_succ, List.map_append, ← List.append_assoc]
  exact z
theorem wipe_put {σ : L2.St} {vs : List Nat} {i : Nat} {x : Option V} (h : i ∈ vs) : wipe ((wipe σ vs).set i x) vs = wipe σ vs := by
  have gen : ∀ (ws : List Nat) (τ τ' : L2.St), τ.length = τ'.length → (∀ j, j ∉ ws → τ[j]? = τ'[j]?) → wipe τ ws = wipe τ' ws := by
    intro ws τ τ' hl hj
    refine List.ext_getElem? fun j => ?_
    by_cases m : j ∈ ws
    · have out : ∀ (ws : List Nat) (τ : L2.St), j ∈ ws → (wipe τ ws)[j]? = if j < τ.length then some none else none := by
        intro ws
        induction ws with
        | nil => intro τ m; cases m
        | cons v ws ih =>
          intro τ m
          show ((wipe τ ws).set v none)[j]? = _
          rw [List.getElem?_set]
          by_cases e : v = j
          · rw [if_pos e, wipe_length, e]
          · rw [if_neg e]
            exact ih τ ((List.mem_cons.mp m).resolve_left (fun z => e z.symm))
      rw [out ws τ m, out ws τ' m, hl]
    · rw [wipe_out m, wipe_out m]
      exact hj j m
  have same : wipe (wipe σ vs) vs = wipe σ vs := gen vs _ _ (wipe_length _ _) fun j m => wipe_out m
  rw [← same]
  rw [same]
  refine (gen vs _ (wipe σ vs) (by rw [List.length_set]) fun j m => ?_).trans same
  rw [List.getElem?_set_ne (fun e => m (by rw [← e]; exact h))]
theorem find_at {α : Type} {p : α → Bool} : ∀ {l : List α} {i : Nat} {e : α}, l[i]? = some e → p e = true → (∀ j x, j < i → l[j]? = some x → p x = false) → l.find? p = some e
  | [], i, e, h, _, _ => by simp at h
  | y :: l, 0, e, h, hp, _ => by
    simp at h
    subst h
    simp [List.find?, hp]
  | y :: l, i + 1, e, h, hp, hj => by
    have h0 := hj 0 y (by omega) (by simp)
    rw [List.find?_cons, h0]
    exact find_at (by simpa using h) hp fun j x l1 hx => hj (j + 1) x (by omega) (by simpa using hx)
section
variable {P : Program} {w : World} {K : PySem.W.Frag} {mg : Str → Option Value} {base : Heap} (T : TX K mg)
theorem G_exact_weights : FnOk P w K mg base (L2.CX P w) 5 T.f_exact_weights T.d_exact_weights ["table"] (spEW K T.c_InvalidScore) := by
  refine T.F_exact_weights.okX sc_exact_weights (fun vs H Q E h => ?_) fun cdv A outer s H vs Q E hr h => ⟨_, (pss_cons (ps_expr (pe_call (G_check_table T) (hr.mono (by decide)) (by rfl) T.m_check_table T.F_check_table.kp T.b_check_table .nil (passes_call (takes_of rfl rfl rfl rfl) fun _ _ _ _ z => z) (by exact (pa_cons (pv 0) pa_nil)))) (pss_cons (ps_set (i := 1) sc_exact_weights.nd rfl (.inr rfl) (pe_callTy cr_rng1 (by rfl) T.n_range (by decide +kernel) (by exact (pa_cons (pe_callB (cr_lenK (K := K)) (by rfl) T.n_len (by decide +kernel) (by exact (pa_cons (pv 0) pa_nil))) pa_nil)))) (pss_cons (ps_for (passes_of rfl) rfl (pi_listK (K := K) (by exact (pe_lc4 (own := [("a", 2), ("c", 3), ("b", 4), ("e", 5)]) (vs1 := [3, 4, 5]) (vs2 := [4, 5]) (vs3 := [5]) (by rfl) sc_exact_weights.nd (pi_rngO (pv 1)) (blkOk_by (own := [("a", 2), ("c", 3), ("b", 4), ("e", 5)]) (N := N_exact_weights) (sc := defScope s_exact_weights) (by decide +kernel)) (by decide) (by decide) (by decide) (fun _ _ _ _ _ => (pg_name (i := 2) sc_exact_weights.nd rfl (.inl rfl))) (fun _ _ _ _ _ => (by exact (pi_rngO (pv 1)))) (fun _ _ _ _ _ => (pg_name (i := 3) sc_exact_weights.nd rfl (.inl rfl))) (fun _ _ _ _ _ => (by exact (pi_rngO (pv 1)))) (fun _ _ _ _ _ => (pg_name (i := 4) sc_exact_weights.nd rfl (.inl rfl))) (fun _ _ _ _ _ => (by exact (pi_rngO (pv 1)))) (fun _ _ _ _ _ => (pg_name (i := 5) sc_exact_weights.nd rfl (.inl rfl))) (fun _ _ _ _ _ => (pe_tup (pa_cons (pv 2) (pa_cons (pv 3) (pa_cons (pv 4) (pa_cons (pv 5) pa_nil)))))) ))) (pg_tupK (K := K) (n := 4) (by rfl) (pgs_cons (pg_name (i := 2) sc_exact_weights.nd rfl (.inl rfl)) (pgs_cons (pg_name (i := 3) sc_exact_weights.nd rfl (.inl rfl)) (pgs_cons (pg_name (i := 4) sc_exact_weights.nd rfl (.inl rfl)) (pgs_cons (pg_name (i := 5) sc_exact_weights.nd rfl (.inl rfl)) pgs_nil))))) (pss_one (ps_if (pt_cmpR op_ne (pe_call (G_round_sum T) (hr.mono (by decide)) (by rfl) T.m_round_sum T.F_round_sum.kp T.b_round_sum .nil pass0 (by exact (pa_cons (pv 0) (pa_cons (pv 2) (pa_cons (pv 3) (pa_cons (pv 4) (pa_cons (pv 5) pa_nil))))))) pe_int (nomark _)) (pss_one (ps_ret (pe_tup (pa_cons pe_str (pa_cons (pe_tup (pa_cons (pv 2) (pa_cons (pv 3) (pa_cons (pv 4) (pa_cons (pv 5) pa_nil))))) pa_nil))))) pss_nil))) (pss_cons (ps_set (i := 6) sc_exact_weights.nd rfl (.inr rfl) (by exact (pe_lc (own := [("mode", 7)]) (by rfl) sc_exact_weights.nd (pi_rngO (pv 1)) (blkOk_by (own := [("mode", 7)]) (N := N_exact_weights) (sc := defScope s_exact_weights) (by decide +kernel)) (fun _ _ _ _ _ => (pg_name (i := 7) sc_exact_weights.nd rfl (.inl rfl))) (fun _ _ _ _ _ => pts_nil) (fun _ _ _ _ _ => (pe_op op_sub (pe_ix (ix_tupK (K := K)) (pe_ix (ix_tupK (K := K)) (pv 0) (pv 7) (fun _ _ => rfl)) pe_int (fun _ _ => rfl)) (pe_ix (ix_tupK (K := K)) (pe_ix (ix_tupK (K := K)) (pv 0) pe_int (fun _ _ => rfl)) (pv 7) (fun _ _ => rfl)))) ))) (pss_one (ps_ret (pe_tup (pa_cons pe_str (pa_cons (pe_tupleK (K := K) (by rfl) T.n_tuple (by exact (pe_lc (own := [("row", 8)]) (by rfl) sc_exact_weights.nd (pi_tupK (K := K) (pv 0)) (blkOk_by (own := [("row", 8)]) (N := N_exact_weights) (sc := defScope s_exact_weights) (by decide +kernel)) (fun _ _ _ _ _ => (pg_name (i := 8) sc_exact_weights.nd rfl (.inl rfl))) (fun _ _ _ _ _ => pts_nil) (fun _ _ _ _ _ => (pe_tupleK (K := K) (by rfl) T.n_tuple (by exact (pe_lc (own := [("number", 9), ("more", 10)]) (by rfl) sc_exact_weights.nd (pi_zipTX (K := K) (by rfl) T.n_zip (by exact (pa_cons (pv 8) (pa_cons (pv 6) pa_nil)))) (blkOk_by (own := [("number", 9), ("more", 10)]) (N := N_exact_weights) (sc := ({ kind := PySem.ScopeKind.function, names := [(PySem.Str.ofString ".0", PySem.NameKind.local), (PySem.Str.ofString "row", PySem.NameKind.local), (PySem.Str.ofString "tuple", PySem.NameKind.globalImplicit), (PySem.Str.ofString "zip", PySem.NameKind.globalImplicit), (PySem.Str.ofString "extra", PySem.NameKind.cell)], isGenerator := false, isCoroutine := false, more := [] } : PySem.Scope)) (by decide +kernel)) (fun _ _ _ _ _ => (pg_tupK (K := K) (n := 2) (by rfl) (pgs_cons (pg_name (i := 9) sc_exact_weights.nd rfl (.inl rfl)) (pgs_cons (pg_name (i := 10) sc_exact_weights.nd rfl (.inl rfl)) pgs_nil)))) (fun _ _ _ _ _ => pts_nil) (fun _ _ _ _ _ => (pe_op op_add (pv 9) (pv 10))) )))) ))) pa_nil))))))))), ?_⟩
  · obtain ⟨x, rfl, _⟩ := h
    rfl
  · obtain ⟨x, rfl, h⟩ := h
    walk_at "rd"
    rcases h with ⟨hx, he⟩ | ⟨t, k, W, rfl, hw, g, ok, h1, h2⟩
    · exact ⟨x, false, rfl, hx, fun _ => he, fun z => by cases z⟩
    · have k1 := g.k1
      have k4 := g.k4
      have tb : TbIs K H (.ref t) (okT W) := .tab hw g.l g.r g.k1 g.k4
      rw [ok] at tb
      refine ⟨.ref t, true, rfl, tb, (fun z => by cases z), fun _ H1 S1 => ?_⟩
      walk_at "rd"
      obtain ⟨qs, hq, hp⟩ := id hw
      have lq := paired_len hp
      refine rd_lenTup (hq.same S1) ?_
      refine rd_rngV ?_
      rw [List.length_map, lq, g.l]
      intro m H2 n2 S2 e2
      walk_at "rd"
      have ek : (((k : Nat) : Int) - 0).toNat = k := by omega
      refine rd_lcB ?_
      refine rd_rngO ?_
      walk_at "rd"
      refine ⟨m, 0, ((k : Nat) : Int), rfl, e2, by omega, ?_⟩
      rw [ek]
      intro D hD
      obtain ⟨c1, c2⟩ := cube k4
      refine it_wk (walk_rng (lo := 0) (n := k)) (fun i H' => Fo H2 D ((List.range i).flatMap fun a => q3 k ((a : Nat) : Int)) H') ⟨Same.fresh hD, [], upd_same, .nil⟩ (fun _ _ _ _ => trivial) (fun i v H3 H4 hi p y => ?_) (fun H3 p => ?_)
      · obtain ⟨rfl, rfl⟩ := y
        rw [Int.zero_add]
        walk_at "rd"
        refine ⟨wipe_put (by decide), ?_⟩
        generalize hσ : List.set (wipe _ _) 2 (some (V.int ((i : Nat) : Int))) = σi
        obtain rfl : [some (.ref t), some (.ref m), some (.int ((i : Nat) : Int)), none, none, none, none, none, none, none, none] = σi := hσ
        walk_at "rd"
        refine rd_bCl ?_
        refine rd_rngO ?_
        walk_at "rd"
        refine ⟨m, 0, ((k : Nat) : Int), rfl, p.1 _ _ e2, by omega, ?_⟩
        rw [ek]
        refine it_wk (walk_rng (lo := 0) (n := k)) (fun j H' => Fo H2 D (((List.range i).flatMap fun a => q3 k ((a : Nat) : Int)) ++ (List.range j).flatMap fun c => q2 k ((i : Nat) : Int) ((c : Nat) : Int)) H') (by simpa using p) (fun _ _ _ _ => trivial) (fun j v H5 H6 hj p y => ?_) (fun H5 p => ?_)
        · obtain ⟨rfl, rfl⟩ := y
          rw [Int.zero_add]
          walk_at "rd"
          refine ⟨wipe_put (by decide), ?_⟩
          generalize hσ : List.set (wipe _ _) 3 (some (V.int ((j : Nat) : Int))) = σj
          obtain rfl : [some (.ref t), some (.ref m), some (.int ((i : Nat) : Int)), some (.int ((j : Nat) : Int)), none, none, none, none, none, none, none] = σj := hσ
          walk_at "rd"
          refine rd_bCl ?_
          refine rd_rngO ?_
          walk_at "rd"
          refine ⟨m, 0, ((k : Nat) : Int), rfl, p.1 _ _ e2, by omega, ?_⟩
          rw [ek]
          refine it_wk (walk_rng (lo := 0) (n := k)) (fun l H' => Fo H2 D (preQ k i j l) H') (by unfold preQ; simpa using p) (fun _ _ _ _ => trivial) (fun l v H7 H8 hl p y => ?_) (fun H7 p => ?_)
          · obtain ⟨rfl, rfl⟩ := y
            rw [Int.zero_add]
            walk_at "rd"
            refine ⟨wipe_put (by decide), ?_⟩
            generalize hσ : List.set (wipe _ _) 4 (some (V.int ((l : Nat) : Int))) = σl
            obtain rfl : [some (.ref t), some (.ref m), some (.int ((i : Nat) : Int)), some (.int ((j : Nat) : Int)), some (.int ((l : Nat) : Int)), none, none, none, none, none, none] = σl := hσ
            walk_at "rd"
            refine rd_bCl ?_
            refine rd_rngO ?_
            walk_at "rd"
            refine ⟨m, 0, ((k : Nat) : Int), rfl, p.1 _ _ e2, by omega, ?_⟩
            rw [ek]
            refine it_wk (walk_rng (lo := 0) (n := k)) (fun n H' => Fo H2 D ((preQ k i j l) ++ (List.range n).map fun e => (((i : Nat) : Int), ((j : Nat) : Int), ((l : Nat) : Int), ((e : Nat) : Int))) H') (by simpa using p) (fun _ _ _ _ => trivial) (fun n v H9 H10 hn p y => ?_) (fun H9 p => ?_)
            · obtain ⟨rfl, rfl⟩ := y
              rw [Int.zero_add]
              walk_at "rd"
              refine ⟨wipe_put (by decide), ?_⟩
              generalize hσ : List.set (wipe _ _) 5 (some (V.int ((n : Nat) : Int))) = σn
              obtain rfl : [some (.ref t), some (.ref m), some (.int ((i : Nat) : Int)), some (.int ((j : Nat) : Int)), some (.int ((l : Nat) : Int)), some (.int ((n : Nat) : Int)), none, none, none, none, none] = σn := hσ
              walk_at "rd"
              refine rd_bEmit ?_
              walk_at "rd"
              intro tt H11 _ S11 e11
              exact fo_put4 p hD S11 e11 (pre_len k4 hi hj hl hn)
            · unfold preQ
              rw [flat_take, ← List.append_assoc]
              exact p
          · unfold preQ at p
            rw [flat_take, ← List.append_assoc]
            exact p
        · rw [flat_take]
          exact p
      · obtain ⟨S3, ps, hps, pp⟩ := p
        walk_at "rd"
        have pq : Paired (FourAt H3) ps (quads k) := pp
        clear pp
        have lp := paired_len pq
        refine ⟨D, rfl, ⟨_, SqL.of hps⟩, ?_⟩
        refine for_list (xs := ps.map V.ref) (fun i σ H' => (∃ o2 o3 o4 o5, σ = [some (.ref t), some (.ref m), o2, o3, o4, o5, none, none, none, none, none]) ∧ Same H3 H' ∧ ∀ j q, j < i → (quads k)[j]? = some q → rs4 W q = 0)
          ⟨⟨none, none, none, none, rfl⟩, Same.refl _, fun j q h _ => absurd h (Nat.not_lt_zero _)⟩ (fun i σ H' _ pv => SqL.of (pv.2.1 _ _ hps)) (fun i x σ H4 hx pv => ?_) (fun σ H4 pv => ?_)
        · obtain ⟨⟨o2, o3, o4, o5, rfl⟩, S4, z4⟩ := pv
          rw [List.getElem?_map] at hx
          obtain ⟨fa, hfa, rfl⟩ := Option.map_eq_some_iff.mp hx
          obtain ⟨q, hq4, hf⟩ := paired_get pq hfa
          obtain ⟨⟨a0, a1⟩, ⟨c0, c1⟩, ⟨b0, b1⟩, ⟨e0, e1⟩⟩ := mem_quads.mp (List.mem_of_getElem? hq4)
          have S14 := (S2.trans S3).trans S4
          refine rd_gtup (Tup.of (S4 _ _ hf)) rfl ?_
          walk_at "rd"
          refine ⟨t, k, W, q.1, q.2.1, q.2.2.1, q.2.2.2, rfl, (hw.same S1).same S14, g, ⟨a0, a1⟩, ⟨c0, c1⟩, ⟨b0, b1⟩, ⟨e0, e1⟩, fun H5 S5 => ?_⟩
          walk_at "rd"
          by_cases cz : rsum W q.1 q.2.1 q.2.2.1 q.2.2.2 = 0
          · refine iteF' (by rw [decide_eq_true cz]; rfl) ?_
            walk_at "rd"
            refine ⟨⟨_, _, _, _, rfl⟩, S4.trans S5, fun j x hj hjx => ?_⟩
            by_cases ji : j = i
            · rw [ji, hq4] at hjx
              cases hjx
              exact cz
            · exact z4 j x (by omega) hjx
          · refine iteT' (by rw [decide_eq_false cz]; rfl) ?_
            walk_at "rd"
            intro f H6 _ S6 e6
            walk_at "rd"
            intro r H7 _ S7 e7
            exact h1 q (find_at hq4 (decide_eq_true cz) fun j x hj hx => decide_eq_false (fun z => z (z4 j x hj hx))) H7 r f ((((S1.trans S14).trans S5).trans S6).trans S7) e7 (S7 _ _ e6)
        · obtain ⟨⟨o2, o3, o4, o5, rfl⟩, S4, z4⟩ := pv
          have none' : firstQ k W = none := List.find?_eq_none.mpr fun q hq => by
            obtain ⟨j, hj⟩ := List.getElem?_of_mem hq
            have lj := (List.getElem?_eq_some_iff.mp hj).1
            have := z4 j q (by rw [List.length_map, lp]; exact lj) hj
            simp [this]
          have S24 := S3.trans S4
          have S14 := S2.trans S24
          have hw4 := (hw.same S1).same S14
          clear z4 hps pq lp S3 S4 h1 hD
          walk_at "rd"
          refine rd_rngO ?_
          walk_at "rd"
          refine ⟨m, 0, ((k : Nat) : Int), rfl, S24 _ _ e2, by omega, ?_⟩
          rw [ek]
          intro D2 hD2
          refine lcv_rng (((List.range k).map fun b => at2 W ((b : Nat) : Int) 0 - at2 W 0 ((b : Nat) : Int)).map V.int) (by simp) (by simp; omega) hD2 (fun i z H5 hi hz S5 R hR => ?_) (fun H5 S5 hx5 => ?_)
          · rw [List.map_map, List.getElem?_map] at hz
            obtain ⟨b, hb, rfl⟩ := Option.map_eq_some_iff.mp hz
            obtain rfl : i = b := by rw [List.getElem?_range hi] at hb; exact Option.some.inj hb
            rw [Int.zero_add]
            walk_at "rd"
            refine ⟨rfl, ?_⟩
            walk_at "rd"
            refine rd_at2 (hw4.same S5) (by omega) (by rw [g.l]; omega) fun r1 hr1 => ?_
            walk_at "rd"
            refine rd_rowAt hr1 (by omega) (by rw [g.row (by omega) (by omega)]; omega) ?_
            walk_at "rd"
            refine rd_at2 (hw4.same S5) (by omega) (by rw [g.l]; omega) fun r2 hr2 => ?_
            walk_at "rd"
            refine rd_rowAt hr2 (by omega) (by rw [g.row (by omega) (by omega)]; omega) ?_
            walk_at "rd"
            exact hR H5 (Same.refl _)
          · have S15 := S14.trans S5
            have hw5 := hw4.same S5
            have hq5 := (hq.same S1).same S15
            have l5 : ∀ {H' : Hp}, Same H5 H' → H' D2 = some (.lst (((List.range k).map fun b => at2 W ((b : Nat) : Int) 0 - at2 W 0 ((b : Nat) : Int)).map V.int)) := fun S => S _ _ hx5
            clear hw4 S24 hD2
            walk_at "rd"
            refine ⟨t, rfl, ⟨_, hq5.sq⟩, fun D3 hD3 => ?_⟩
            refine lc_tup (xs := qs.map V.ref) (fun i H' => Same H5 H' ∧ ∃ us : List Addr, H' D3 = some (.lst (us.map V.ref)) ∧ Paired (RowT H') us ((movedT k W).take i))
              ⟨Same.fresh hD3, [], upd_same, .nil⟩ (fun i H' _ pv => (hq5.same pv.1).sq) (fun i x H6 hx pv => ?_) (fun H6 pv => ?_)
            · obtain ⟨S6, us, hus, pu⟩ := pv
              rw [List.getElem?_map] at hx
              obtain ⟨r, hr, rfl⟩ := Option.map_eq_some_iff.mp hx
              obtain ⟨row, hrow, hrr⟩ := paired_get hp hr
              have lr := g.r row (List.mem_of_getElem? hrow)
              have hr6 := rowT_same hrr ((S1.trans S15).trans S6)
              have lu := paired_len pu
              rw [List.length_take] at lu
              have li := (List.getElem?_eq_some_iff.mp hrow).1
              have lW := g.l
              walk_at "rd"
              refine ⟨rfl, ?_⟩
              walk_at "rd"
              unfold iZipTX
              refine .inl ?_
              unfold iZipM
              walk_at "rd"
              refine ⟨r, D2, _, _, rfl, hr6.sq, SqL.of (l5 S6), fun D4 hD4 => ?_⟩
              have em : (movedT k W)[i]? = some ((List.range k).map fun b => modeAt row ((b : Nat) : Int) + (at2 W ((b : Nat) : Int) 0 - at2 W 0 ((b : Nat) : Int))) := by
                unfold movedT
                rw [List.getElem?_map, hrow]; rfl
              refine it_wk (walk_zipM (K := K) (xs := row.map V.int) (ys := ((List.range k).map fun b => at2 W ((b : Nat) : Int) 0 - at2 W 0 ((b : Nat) : Int)).map V.int) (by simp [lr])) (fun j H' => Same H6 H' ∧ H' D4 = some (.lst (((List.range j).map fun b => modeAt row ((b : Nat) : Int) + (at2 W ((b : Nat) : Int) 0 - at2 W 0 ((b : Nat) : Int))).map V.int)))
                ⟨Same.fresh hD4, upd_same⟩ (fun j H' _ pv => ⟨(rowT_same hr6 pv.1).sq, SqL.of (l5 (S6.trans pv.1))⟩) (fun j v H7 H8 hj pv y => ?_) (fun H7 pv => ?_)
              · obtain ⟨S7, hd7⟩ := pv
                obtain ⟨T', u, z, rfl, hT, rfl, hu, hz⟩ := y
                rw [List.length_map, lr] at hj
                have S8 : Same H7 (upd H7 T' (.tup [u, z])) := Same.fresh hT
                have ht8 : upd H7 T' (.tup [u, z]) T' = some (.tup [u, z]) := upd_same
                generalize upd H7 T' (.tup [u, z]) = H8 at S8 ht8
                have hu : (row.map V.int)[j]? = some u := hu
                have hz : (((List.range k).map fun b => at2 W ((b : Nat) : Int) 0 - at2 W 0 ((b : Nat) : Int)).map V.int)[j]? = some z := hz
                rw [List.getElem?_map] at hu hz
                rw [List.getElem?_map, List.getElem?_range hj] at hz
                rw [List.getElem?_eq_getElem (by omega)] at hu
                cases hu
                cases hz
                have eu : row[j] = modeAt row ((j : Nat) : Int) := by
                  show row[j] = row.getD ((j : Nat) : Int).toNat 0
                  rw [show ((j : Nat) : Int).toNat = j by omega, List.getD_eq_getElem?_getD, List.getElem?_eq_getElem (by omega)]; rfl
                rw [eu] at ht8
                refine rd_gtup (Tup.of ht8) rfl ?_
                walk_at "rd"
                refine ⟨rfl, ?_⟩
                walk_at "rd"
                refine ⟨_, S8 _ _ hd7, ?_, same_put (S7.trans S8) hD4, ?_⟩
                · rw [List.length_map, List.length_map, List.length_range]
                  exact Nat.lt_of_lt_of_le (by omega : j < 1000) (by decide)
                · rw [upd_same, List.range_succ, List.map_append, List.map_append]; rfl
              · obtain ⟨S7, hd7⟩ := pv
                rw [List.length_map, lr] at hd7
                walk_at "rd"
                refine rd_tupL hd7 ?_
                intro u H8 z8 S8 hu8
                have S68 := S7.trans S8
                have hus8 := S68 _ _ hus
                refine ⟨_, hus8, ?_, same_put (S6.trans S68) hD3, us ++ [u], by rw [upd_same]; simp, ?_⟩
                · rw [List.length_map]
                  exact Nat.lt_of_le_of_lt (by omega : us.length ≤ 1000) (by decide)
                · rw [List.take_succ, em]
                  have K8 : Kept H8 (upd H8 D3 (.lst (us.map V.ref ++ [V.ref u]))) := Kept.upd hus8
                  exact paired_append (paired_mono pu fun _ _ z => tup_kept (rowT_same z S68) K8) (.cons (tup_kept (Tup.of hu8) K8) .nil)
            · obtain ⟨S6, us, hus, pu⟩ := pv
              have lm : (movedT k W).take (qs.map V.ref).length = movedT k W := List.take_of_length_le (by unfold movedT; rw [List.length_map, List.length_map]; omega)
              rw [lm] at pu
              walk_at "rd"
              refine rd_tupL hus ?_
              intro u H7 z7 S7 hu7
              walk_at "rd"
              intro r H8 z8 S8 hr8
              exact h2 none' H8 r u ((((S1.trans S15).trans S6).trans S7).trans S8) hr8 ⟨us, Tup.of (S8 _ _ hu7), paired_mono pu fun _ _ z => rowT_same z (S7.trans S8)⟩
end
end K69

namespace K69
open PySem PySem.Spec PyProof.Rows L2 KX
local macro_rules | `(tactic| walk_at "rd1") => `(tactic| first
  | with_reducible refine rd_seq ?_
  | with_reducible refine rd_for ?_
  | with_reducible refine rd_lc ?_
  | with_reducible refine rd_asg ?_
  | ((with_reducible refine' rd_var ?rdv ?_); (case rdv => exact rfl))
  | with_reducible refine rd_c ?_
  | with_reducible refine rd_op ?_
  | with_reducible refine rd_un ?_
  | with_reducible refine rd_cons ?_
  | with_reducible refine rd_nil ?_
  | with_reducible refine rd_call ?_
  | with_reducible refine rd_cb ?_
  | with_reducible refine rd_tB ?_
  | with_reducible refine rd_test ?_
  | with_reducible refine rd_bl ?_
  | with_reducible refine rd_rI0 ?_
  | with_reducible refine rd_eqI ?_
  | with_reducible refine rd_neI ?_
  | with_reducible refine rd_rU ?_
  | with_reducible refine rd_name ?_
  | with_reducible refine rd_ifs ?_
  | with_reducible refine rd_and ?_
  | with_reducible refine rd_or ?_
  | with_reducible refine rd_not ?_
  | with_reducible refine rd_yes ?_
  | with_reducible refine rd_andV ?_
  | with_reducible refine rd_orV ?_
  | with_reducible refine rd_notV ?_
  | with_reducible refine rd_if ?_
  | with_reducible refine rd_isN ?_
  | with_reducible refine rd_iT ?_
  | with_reducible refine rd_iF ?_
  | with_reducible refine rd_ret ?_
  | with_reducible refine rd_retN ?_
  | with_reducible refine rd_drop ?_
  | with_reducible refine rd_next ?_
  | with_reducible refine rd_cont ?_
  | with_reducible refine rd_brk ?_
  | with_reducible refine rd_nx ?_
  | with_reducible refine rd_rt ?_
  | with_reducible refine rd_ct ?_
  | with_reducible refine rd_bk ?_
  | with_reducible refine rd_par ?_
  | with_reducible refine rd_par3 ?_
  | with_reducible refine rd_par2 ?_
  | with_reducible refine rd_par33 ?_
  | with_reducible refine rd_gcons ?_
  | with_reducible refine rd_gnil ?_
  | with_reducible refine rd_sub ?_
  | with_reducible refine rd_tup ?_
  | with_reducible refine rd_lst ?_
  | ((with_reducible refine rd_tupT ?hl ?_); (case hl => exact Nat.le_of_ble_eq_true rfl))
  | ((with_reducible refine rd_lstT ?hl ?_); (case hl => exact Nat.le_of_ble_eq_true rfl))
  | with_reducible refine rd_bm ?_
  | with_reducible refine rd_bm0 ?_
  | with_reducible refine rd_sl ?_
  | with_reducible refine rd_noP ?_
  | with_reducible refine rd_part ?_
  | with_reducible refine rd_int ?_
  | with_reducible refine rd_int1 ?_
  | with_reducible refine rd_fld ?_
  | with_reducible refine rd_then ?_
  | with_reducible refine rd_raise ?_
  | with_reducible refine rd_one ?_
  | with_reducible refine rd_sfld ?_
  | with_reducible refine rd_ilist ?_
  | with_reducible refine rd_itup ?_
  | with_reducible refine rd_rng1 ?_
  | with_reducible refine rd_enum ?_
  | with_reducible refine rd_enumT ?_)
local macro_rules | `(tactic| walk_at "rd") => `(tactic| repeat (walk_at "rd1"))
/-- whether a value is a tuple of so many that begins with a word -/
inductive ToldX (K : PySem.W.Frag) (H : Hp) (wd : Str) (k : Nat) : V → Bool → Prop
  | ntp {x : V} {s : String} (t : TyX K H x (.type s)) (q : kitB s "tuple" = some false) : ToldX K H wd k x false
  | len {a : Addr} {xs : List V} (h : Tup H a xs) (l : xs.length ≠ k) : ToldX K H wd k (.ref a) false
  | oth {a : Addr} {y : V} {xs : List V} {s : String} (h : Tup H a (y :: xs)) (l : xs.length + 1 = k) (t : TyX K H y (.type s)) (q : kitB s "str" = some false) : ToldX K H wd k (.ref a) false
  | str {a : Addr} {w' : Str} {xs : List V} (h : Tup H a (.str w' :: xs)) (l : xs.length + 1 = k) (ok : PyData.strOk w' = true) : ToldX K H wd k (.ref a) (PyData.eqv (.str w') (.str wd))
theorem ToldX.same {K : PySem.W.Frag} {H H' : Hp} {wd : Str} {k : Nat} {x : V} {b : Bool} (h : ToldX K H wd k x b) (s : Same H H') : ToldX K H' wd k x b := by
  cases h with
  | ntp t q => exact .ntp (tyx_same t s) q
  | len h l => exact .len (h.same s) l
  | oth h l t q => exact .oth (h.same s) l (tyx_same t s) q
  | str h l ok => exact .str (h.same s) l ok
def spTold (K : PySem.W.Frag) : L2.Sp := fun vs H Q _ => ∃ (x : V) (wd : Str) (k : Nat) (b : Bool), vs = [x, .str wd, .int (k : Nat)] ∧ ToldX K H wd k x b ∧ PyData.strOk wd = true ∧ ∀ H', Same H H' → Q (.bl b) H'
def mov1 (k : Nat) (W M : List (List Int)) (b : Int) : Bool := (List.range k).all fun c => decide (at2 W ((c : Nat) : Int) b - at2 W 0 b = at2 M ((c : Nat) : Int) b - at2 M 0 b)
def movB (k : Nat) (W M : List (List Int)) : Bool := (List.range k).all fun b => mov1 k W M ((b : Nat) : Int)
def spMov (K : PySem.W.Frag) : L2.Sp := fun vs H Q _ => ∃ (t u : Addr) (k : Nat) (W M : List (List Int)) (b : Int), vs = [.ref t, .ref u, .int b] ∧ TabAt H t W ∧ TabAt H u M ∧ Tk k W ∧ Tk k M ∧ Lt k b ∧ ∀ H', Same H H' → Q (.bl (mov1 k W M b)) H'
theorem sh_str {w : Str} (h : PyData.strOk w = true) : SeqAt.shaped (.str w) = true := by
  simp [SeqAt.shaped, PyData.canLay0, PyData.depth, h]
theorem atI_zero (y : V) (xs : List V) : atI (y :: xs) 0 = some y := by
  have h : atI (y :: xs) ((0 : Nat) : Int) = some y := atI_nat rfl
  exact h
theorem ToldX.fin {K : PySem.W.Frag} {H : Hp} {wd : Str} {k : Nat} {x : V} {b c : Bool} (h : ToldX K H wd k x b) (e : b = c) : ToldX K H wd k x c := by rw [← e]; exact h
/-- no tuple of so many -/
inductive NoTup (K : PySem.W.Frag) (H : Hp) (k : Nat) : V → Prop
  | ntp {x : V} {s : String} (t : TyX K H x (.type s)) (q : kitB s "tuple" = some false) : NoTup K H k x
  | len {a : Addr} {xs : List V} (h : Tup H a xs) (l : xs.length ≠ k) : NoTup K H k (.ref a)
theorem NoTup.same {K : PySem.W.Frag} {H H' : Hp} {k : Nat} {x : V} (h : NoTup K H k x) (s : Same H H') : NoTup K H' k x := by
  cases h with
  | ntp t q => exact .ntp (tyx_same t s) q
  | len h l => exact .len (h.same s) l
/-- whether a value is a right answer -/
inductive ExIs (K : PySem.W.Frag) (H : Hp) (k : Nat) (W : List (List Int)) : V → Bool → Prop
  | nto {x : V} (t : NoTup K H 2 x) : ExIs K H k W x false
  | oth {a : Addr} {y z : V} {s : String} (h : Tup H a [y, z]) (t : TyX K H y (.type s)) (q : kitB s "str" = some false) : ExIs K H k W (.ref a) false
  | wno {a : Addr} {z : V} (h : Tup H a [.str "weights", z]) (e : EvIs K H k z false) : ExIs K H k W (.ref a) false
  | wts {a u : Addr} {M : List (List Int)} (h : Tup H a [.str "weights", .ref u]) (tb : TabAt H u M) (l : M.length = k) (r : ∀ r ∈ M, r.length = k) : ExIs K H k W (.ref a) (evenB k M && movB k W M)
  | rno {a : Addr} {z : V} (h : Tup H a [.str "round", z]) (t : NoTup K H 4 z) : ExIs K H k W (.ref a) false
  | bad {a q : Addr} {ys : List V} {os : List (Option Int)} (h : Tup H a [.str "round", .ref q]) (hq : Tup H q ys) (l : ys.length = 4) (p : Paired (Kin K H) ys os) (b : (os.all fun o => belB o k) = false) : ExIs K H k W (.ref a) false
  | rnd {a q : Addr} {e : Four} (h : Tup H a [.str "round", .ref q]) (hq : Tup H q [.int e.1, .int e.2.1, .int e.2.2.1, .int e.2.2.2]) (b1 : Lt k e.1) (b2 : Lt k e.2.1) (b3 : Lt k e.2.2.1) (b4 : Lt k e.2.2.2) : ExIs K H k W (.ref a) (!decide (rs4 W e = 0))
theorem ExIs.same {K : PySem.W.Frag} {H H' : Hp} {k : Nat} {W : List (List Int)} {x : V} {b : Bool} (h : ExIs K H k W x b) (s : Same H H') : ExIs K H' k W x b := by
  cases h with
  | nto t => exact .nto (t.same s)
  | oth h t q => exact .oth (h.same s) (tyx_same t s) q
  | wno h e => exact .wno (h.same s) (e.same s)
  | wts h tb l r => exact .wts (h.same s) (tb.same s) l r
  | rno h t => exact .rno (h.same s) (t.same s)
  | bad h hq l p b => exact .bad (h.same s) (hq.same s) l (kins_same p s) b
  | rnd h hq b1 b2 b3 b4 => exact .rnd (h.same s) (hq.same s) b1 b2 b3 b4
def spEx (K : PySem.W.Frag) : L2.Sp := fun vs H Q _ => ∃ (t : Addr) (k : Nat) (W : List (List Int)) (x : V) (b : Bool), vs = [.ref t, x] ∧ TabAt H t W ∧ Tk k W ∧ ExIs K H k W x b ∧ ∀ H', Same H H' → Q (.bl b) H'
theorem NoTup.told {K : PySem.W.Frag} {H : Hp} {k : Nat} {x : V} {wd : Str} (h : NoTup K H k x) : ToldX K H wd k x false := by
  cases h with
  | ntp t q => exact .ntp t q
  | len h l => exact .len h l
section
variable {P : Program} {w : World} {K : PySem.W.Frag} {mg : Str → Option Value} {base : Heap} (T : TX K mg)
theorem G_is_told : FnOk P w K mg base CX0 2 T.f_is_told T.d_is_told ["value", "word", "length"] (spTold K) := by
  refine T.F_is_told.ok sc_is_told (fun vs H Q E h => ?_) fun cdv A outer s H vs Q E hr h => ⟨_, (pss_one (ps_ret (pe_and (pe_call (G_is_tuple_of T) (hr.mono (by decide)) (by rfl) T.m_is_tuple_of T.F_is_tuple_of.kp T.b_is_tuple_of .nil pass0 (by exact (pa_cons (pv 0) (pa_cons (pv 2) pa_nil)))) (pe_and (pe_callB (cr_isiK (K := K)) (by rfl) T.n_isinstance (by decide +kernel) (by exact (pa_cons (pe_ix (ix_tupK (K := K)) (pv 0) pe_int (fun _ _ => rfl)) (pa_cons (pe_bltn (v := .ty "str") rfl T.n_str (by decide +kernel) rfl) pa_nil)))) (pe_one (pe_cmpR (op_eqDK (K := K) hr.units) (pe_ix (ix_tupK (K := K)) (pv 0) pe_int (fun _ _ => rfl)) (pv 1) (nomark _))))))), ?_⟩
  · obtain ⟨x, wd, k, b, rfl, _⟩ := h
    rfl
  · obtain ⟨x, wd, k, b, rfl, hx, ok, hQ⟩ := h
    walk_at "rd"
    cases hx with
    | ntp t q =>
      refine ⟨_, _, rfl, .inl ⟨_, t, q, ?_⟩⟩
      walk_at "rd"
      exact hQ H (Same.refl H)
    | @len a xs h l =>
      refine ⟨_, _, rfl, .inr ⟨a, xs, rfl, h, ?_⟩⟩
      walk_at "rd"
      refine iteF' (by simp; omega) ?_
      walk_at "rd"
      exact hQ H (Same.refl H)
    | @oth a y xs s h l t q =>
      refine ⟨_, _, rfl, .inr ⟨a, _, rfl, h, ?_⟩⟩
      walk_at "rd"
      refine iteT' (by simp; omega) ?_
      walk_at "rd"
      refine rd_ixT h (atI_zero _ _) ?_
      walk_at "rd"
      refine ⟨_, _, _, _, _, rfl, .ty "str", t, kit_ty q, ?_⟩
      walk_at "rd"
      exact hQ H (Same.refl H)
    | @str a w' xs h l o2 =>
      refine ⟨_, _, rfl, .inr ⟨a, _, rfl, h, ?_⟩⟩
      walk_at "rd"
      refine iteT' (by simp; omega) ?_
      walk_at "rd"
      refine rd_ixT h (atI_zero _ _) ?_
      walk_at "rd"
      refine ⟨_, _, _, _, true, rfl, .ty "str", .base (.str w'), kit_ty (by decide +kernel), ?_⟩
      walk_at "rd"
      refine rd_ixT h (atI_zero _ _) ?_
      walk_at "rd"
      exact ⟨.str w', .str wd, .str _, .str _, sh_str o2, sh_str ok, hQ H (Same.refl H)⟩
theorem G_is_moved_alike : FnOk P w K mg base CX0 1 T.f_is_moved_alike T.d_is_moved_alike ["table", "rows", "b"] (spMov K) := by
  refine T.F_is_moved_alike.ok sc_is_moved_alike (fun vs H Q E h => ?_) fun cdv A outer s H vs Q E hr h => ⟨_, (pss_one (ps_ret (pe_callB (cr_allK (K := K) rfl) (by rfl) T.n_all (by decide +kernel) (by exact (pa_cons (by exact (pe_lc (own := [("c", 3)]) (by rfl) sc_is_moved_alike.nd (pi_range1 (by rfl) T.n_range (by exact (pa_cons (pe_callB (cr_lenK (K := K)) (by rfl) T.n_len (by decide +kernel) (by exact (pa_cons (pv 0) pa_nil))) pa_nil))) (blkOk_by (own := [("c", 3)]) (N := N_is_moved_alike) (sc := defScope s_is_moved_alike) (by decide +kernel)) (fun _ _ _ _ _ => (pg_name (i := 3) sc_is_moved_alike.nd rfl (.inl rfl))) (fun _ _ _ _ _ => pts_nil) (fun _ _ _ _ _ => (pe_cmpR op_eq (pe_op op_sub (pe_ix (ix_tupK (K := K)) (pe_ix (ix_tupK (K := K)) (pv 0) (pv 3) (fun _ _ => rfl)) (pv 2) (fun _ _ => rfl)) (pe_ix (ix_tupK (K := K)) (pe_ix (ix_tupK (K := K)) (pv 0) pe_int (fun _ _ => rfl)) (pv 2) (fun _ _ => rfl))) (pe_op op_sub (pe_ix (ix_tupK (K := K)) (pe_ix (ix_tupK (K := K)) (pv 1) (pv 3) (fun _ _ => rfl)) (pv 2) (fun _ _ => rfl)) (pe_ix (ix_tupK (K := K)) (pe_ix (ix_tupK (K := K)) (pv 1) pe_int (fun _ _ => rfl)) (pv 2) (fun _ _ => rfl))) (nomark _))) )) pa_nil))))), ?_⟩
  · obtain ⟨t, u, k, W, M, b, rfl, _⟩ := h
    rfl
  · obtain ⟨t, u, k, W, M, b, rfl, hw, hm, g, g2, lb, hQ⟩ := h
    have k1 := g.k1
    have k4 := g.k4
    obtain ⟨qs, hq, hp⟩ := id hw
    have lq := paired_len hp
    walk_at "rd"
    refine rd_lenTup hq ?_
    walk_at "rd"
    rw [List.length_map, lq, g.l]
    refine ⟨by omega, by omega, fun D hD => ?_⟩
    rw [show (((k : Nat) : Int)).toNat = k by omega]
    refine lcv_rng (((List.range k).map fun c => decide (at2 W ((c : Nat) : Int) b - at2 W 0 b = at2 M ((c : Nat) : Int) b - at2 M 0 b)).map V.bl) (by simp) (by simp; omega) hD (fun i z H5 hi hz S5 R hR => ?_) (fun H5 S5 hx5 => ?_)
    · rw [List.map_map, List.getElem?_map] at hz
      obtain ⟨c, hc, rfl⟩ := Option.map_eq_some_iff.mp hz
      obtain rfl : i = c := by rw [List.getElem?_range hi] at hc; exact Option.some.inj hc
      rw [Int.zero_add]
      walk_at "rd"
      refine ⟨rfl, ?_⟩
      walk_at "rd"
      refine rd_at2 (hw.same S5) (by omega) (by rw [g.l]; omega) fun r1 hr1 => ?_
      walk_at "rd"
      refine rd_rowAt hr1 lb.1 (by rw [g.row (by omega) (by omega)]; exact lb.2) ?_
      walk_at "rd"
      refine rd_at2 (hw.same S5) (by omega) (by rw [g.l]; omega) fun r2 hr2 => ?_
      walk_at "rd"
      refine rd_rowAt hr2 lb.1 (by rw [g.row (by omega) (by omega)]; exact lb.2) ?_
      walk_at "rd"
      refine rd_at2 (hm.same S5) (by omega) (by rw [g2.l]; omega) fun r3 hr3 => ?_
      walk_at "rd"
      refine rd_rowAt hr3 lb.1 (by rw [g2.row (by omega) (by omega)]; exact lb.2) ?_
      walk_at "rd"
      refine rd_at2 (hm.same S5) (by omega) (by rw [g2.l]; omega) fun r4 hr4 => ?_
      walk_at "rd"
      refine rd_rowAt hr4 lb.1 (by rw [g2.row (by omega) (by omega)]; exact lb.2) ?_
      walk_at "rd"
      exact hR H5 (Same.refl _)
    · walk_at "rd"
      refine rd_all hx5 ?_
      have e : ((List.range k).map fun c => decide (at2 W ((c : Nat) : Int) b - at2 W 0 b = at2 M ((c : Nat) : Int) b - at2 M 0 b)).all id = mov1 k W M b := by
        unfold mov1
        rw [List.all_map]; rfl
      rw [e]
      exact hQ H5 S5
theorem G_is_exact : FnOk P w K mg base CX0 4 T.f_is_exact T.d_is_exact ["table", "value"] (spEx K) := by
  refine T.F_is_exact.ok sc_is_exact (fun vs H Q E h => ?_) fun cdv A outer s H vs Q E hr h => ⟨_, (pss_cons (ps_set (i := 2) sc_is_exact.nd rfl (.inr rfl) (pe_callB (cr_lenK (K := K)) (by rfl) T.n_len (by decide +kernel) (by exact (pa_cons (pv 0) pa_nil)))) (pss_cons (ps_if (pt_val (pe_call (G_is_told T) (hr.mono (by decide)) (by rfl) T.m_is_told T.F_is_told.kp T.b_is_told .nil pass0 (by exact (pa_cons (pv 1) (pa_cons pe_str (pa_cons pe_int pa_nil)))))) (pss_cons (ps_set (i := 3) sc_is_exact.nd rfl (.inr rfl) (pe_ix (ix_tupK (K := K)) (pv 1) pe_int (fun _ _ => rfl))) (pss_one (ps_ret (pe_and (pe_call (G_is_even_table T) (hr.mono (by decide)) (by rfl) T.m_is_even_table T.F_is_even_table.kp T.b_is_even_table .nil pass0 (by exact (pa_cons (pv 2) (pa_cons (pv 3) pa_nil)))) (pe_one (pe_callB (cr_allK (K := K) rfl) (by rfl) T.n_all (by decide +kernel) (by exact (pa_cons (by exact (pe_lc (own := [("b", 4)]) (by rfl) sc_is_exact.nd (pi_range1 (by rfl) T.n_range (by exact (pa_cons (pv 2) pa_nil))) (blkOk_by (own := [("b", 4)]) (N := N_is_exact) (sc := defScope s_is_exact) (by decide +kernel)) (fun _ _ _ _ _ => (pg_name (i := 4) sc_is_exact.nd rfl (.inl rfl))) (fun _ _ _ _ _ => pts_nil) (fun _ _ _ _ _ => (pe_call (G_is_moved_alike T) (hr.mono (by decide)) (by rfl) T.m_is_moved_alike T.F_is_moved_alike.kp T.b_is_moved_alike .nil pass0 (by exact (pa_cons (pv 0) (pa_cons (pv 3) (pa_cons (pv 4) pa_nil)))))) )) pa_nil)))))))) pss_nil) (pss_cons (ps_if (PW.pt (pw_or (pt_not (pt_val (pe_call (G_is_told T) (hr.mono (by decide)) (by rfl) T.m_is_told T.F_is_told.kp T.b_is_told .nil pass0 (by exact (pa_cons (pv 1) (pa_cons pe_str (pa_cons pe_int pa_nil))))))) (pw_or1 (pt_not (pt_val (pe_call (G_is_tuple_of T) (hr.mono (by decide)) (by rfl) T.m_is_tuple_of T.F_is_tuple_of.kp T.b_is_tuple_of .nil pass0 (by exact (pa_cons (pe_ix (ix_tupK (K := K)) (pv 1) pe_int (fun _ _ => rfl)) (pa_cons pe_int pa_nil))))))))) (pss_one (ps_ret pe_bl)) pss_nil) (pss_cons (ps_if (pt_not (pt_val (pe_callB (cr_allK (K := K) rfl) (by rfl) T.n_all (by decide +kernel) (by exact (pa_cons (by exact (pe_lc (own := [("mode", 8)]) (by rfl) sc_is_exact.nd (pi_tupK (K := K) (pe_ix (ix_tupK (K := K)) (pv 1) pe_int (fun _ _ => rfl))) (blkOk_by (own := [("mode", 8)]) (N := N_is_exact) (sc := defScope s_is_exact) (by decide +kernel)) (fun _ _ _ _ _ => (pg_name (i := 8) sc_is_exact.nd rfl (.inl rfl))) (fun _ _ _ _ _ => pts_nil) (fun _ _ _ _ _ => (pe_call (G_is_below T) (hr.mono (by decide)) (by rfl) T.m_is_below T.F_is_below.kp T.b_is_below .nil pass0 (by exact (pa_cons (pv 8) (pa_cons (pv 2) pa_nil))))) )) pa_nil))))) (pss_one (ps_ret pe_bl)) pss_nil) (pss_cons (ps_asg (pe_ix (ix_tupK (K := K)) (pv 1) pe_int (fun _ _ => rfl)) (pg_tupK (K := K) (n := 4) (by rfl) (pgs_cons (pg_name (i := 5) sc_is_exact.nd rfl (.inl rfl)) (pgs_cons (pg_name (i := 6) sc_is_exact.nd rfl (.inl rfl)) (pgs_cons (pg_name (i := 4) sc_is_exact.nd rfl (.inl rfl)) (pgs_cons (pg_name (i := 7) sc_is_exact.nd rfl (.inl rfl)) pgs_nil)))))) (pss_one (ps_ret (pe_cmpR op_ne (pe_call (G_round_sum T) (hr.mono (by decide)) (by rfl) T.m_round_sum T.F_round_sum.kp T.b_round_sum .nil pass0 (by exact (pa_cons (pv 0) (pa_cons (pv 5) (pa_cons (pv 6) (pa_cons (pv 4) (pa_cons (pv 7) pa_nil))))))) pe_int (nomark _))))))))), ?_⟩
  · obtain ⟨t, k, W, x, b, rfl, _⟩ := h
    rfl
  · obtain ⟨t, k, W, x, b, rfl, hw, g, hx, hQ⟩ := h
    have k1 := g.k1
    have k4 := g.k4
    obtain ⟨qs, hq, hp⟩ := id hw
    have lq := paired_len hp
    have okW : PyData.strOk (("weights" : Str)) = true := by decide +kernel
    have okR : PyData.strOk (("round" : Str)) = true := by decide +kernel
    have eWR : PyData.eqv (.str ("weights" : Str)) (.str ("round" : Str)) = false := by decide +kernel
    have eRW : PyData.eqv (.str ("round" : Str)) (.str ("weights" : Str)) = false := by decide +kernel
    have eWW : PyData.eqv (.str ("weights" : Str)) (.str ("weights" : Str)) = true := by decide +kernel
    have eRR : PyData.eqv (.str ("round" : Str)) (.str ("round" : Str)) = true := by decide +kernel
    have tR : ∀ {H' : Hp} {a : Addr} {z : V}, Tup H' a [.str "round", z] → ToldX K H' "weights" 2 (.ref a) false := fun h => (ToldX.str h rfl okR).fin eRW
    have tW : ∀ {H' : Hp} {a : Addr} {z : V}, Tup H' a [.str "weights", z] → ToldX K H' "weights" 2 (.ref a) true := fun h => (ToldX.str h rfl okW).fin eWW
    have tRR : ∀ {H' : Hp} {a : Addr} {z : V}, Tup H' a [.str "round", z] → ToldX K H' "round" 2 (.ref a) true := fun h => (ToldX.str h rfl okR).fin eRR
    walk_at "rd"
    refine rd_lenTup hq ?_
    walk_at "rd"
    rw [List.length_map, lq, g.l]
    have c1 : ∃ b1, ToldX K H "weights" 2 x b1 ∧ (b1 = true → ∃ a z, x = .ref a ∧ Tup H a [.str "weights", z] ∧ ∃ c, EvIs K H k z c ∧ ((c = false ∧ b = false) ∨ (c = true ∧ ∃ u M, z = .ref u ∧ TabAt H u M ∧ Tk k M ∧ b = movB k W M))) ∧
        (b1 = false → ∃ b2, ToldX K H "round" 2 x b2 ∧ (b2 = false → b = false) ∧ (b2 = true → ∃ a z, x = .ref a ∧ Tup H a [.str "round", z] ∧ ((NoTup K H 4 z ∧ b = false) ∨ ∃ q ys os, z = .ref q ∧ Tup H q ys ∧ ys.length = 4 ∧ Paired (Kin K H) ys os ∧
          (((os.all fun o => belB o k) = false ∧ b = false) ∨ ((os.all fun o => belB o k) = true ∧ ∃ e : Four, ys = [.int e.1, .int e.2.1, .int e.2.2.1, .int e.2.2.2] ∧ Lt k e.1 ∧ Lt k e.2.1 ∧ Lt k e.2.2.1 ∧ Lt k e.2.2.2 ∧ b = !decide (rs4 W e = 0)))))) := by
      cases hx with
      | nto t => exact ⟨false, t.told, (fun z => by cases z), fun _ => ⟨false, t.told, fun _ => rfl, fun z => by cases z⟩⟩
      | oth h t q => exact ⟨false, .oth h rfl t q, (fun z => by cases z), fun _ => ⟨false, .oth h rfl t q, fun _ => rfl, fun z => by cases z⟩⟩
      | wno h e => exact ⟨true, tW h, (fun _ => ⟨_, _, rfl, h, false, e, .inl ⟨rfl, rfl⟩⟩), fun z => by cases z⟩
      | @wts a u M h tb l r =>
        refine ⟨true, tW h, (fun _ => ⟨_, _, rfl, h, evenB k M, .tab tb l r, ?_⟩), fun z => by cases z⟩
        cases e : evenB k M with
        | false => exact .inl ⟨rfl, rfl⟩
        | true => exact .inr ⟨rfl, u, M, rfl, tb, ⟨l, r, k1, k4⟩, Bool.true_and _⟩
      | rno h t => exact ⟨false, tR h, (fun z => by cases z), fun _ => ⟨true, tRR h, (fun z => by cases z), fun _ => ⟨_, _, rfl, h, .inl ⟨t, rfl⟩⟩⟩⟩
      | bad h hq l p b => exact ⟨false, tR h, (fun z => by cases z), fun _ => ⟨true, tRR h, (fun z => by cases z), fun _ => ⟨_, _, rfl, h, .inr ⟨_, _, _, rfl, hq, l, p, .inl ⟨b, rfl⟩⟩⟩⟩⟩
      | @rnd a q e h hq b1 b2 b3 b4 =>
        refine ⟨false, tR h, (fun z => by cases z), fun _ => ⟨true, tRR h, (fun z => by cases z), fun _ => ⟨_, _, rfl, h, .inr ⟨_, _, [some e.1, some e.2.1, some e.2.2.1, some e.2.2.2], rfl, hq, rfl, .cons (.int _) (.cons (.int _) (.cons (.int _) (.cons (.int _) .nil))), .inr ⟨?_, e, rfl, b1, b2, b3, b4, rfl⟩⟩⟩⟩⟩
        simp [belB, b1.1, b1.2, b2.1, b2.2, b3.1, b3.2, b4.1, b4.2]
    clear hx tR tW tRR
    obtain ⟨b1, t1, h1, h2⟩ := c1
    refine ⟨x, "weights", 2, b1, rfl, t1, okW, fun H1 S1 => ?_⟩
    walk_at "rd"
    cases b1 with
    | true =>
      clear h2 t1
      obtain ⟨a, z, rfl, ha, c, ev, fin⟩ := h1 rfl
      refine iteT' rfl ?_
      walk_at "rd"
      refine rd_ixT (ha.same S1) rfl ?_
      walk_at "rd"
      refine ⟨k, z, c, rfl, by omega, ev.same S1, fun H2 S2 => ?_⟩
      have S12 := S1.trans S2
      walk_at "rd"
      rcases fin with ⟨rfl, rfl⟩ | ⟨rfl, u, M, rfl, tb, g2, rfl⟩
      · walk_at "rd"
        exact hQ H2 S12
      · walk_at "rd"
        refine ⟨by omega, by omega, fun D hD => ?_⟩
        rw [show (((k : Nat) : Int)).toNat = k by omega]
        refine lcv_rng (((List.range k).map fun b => mov1 k W M ((b : Nat) : Int)).map V.bl) (by simp) (by simp; omega) hD (fun i z H5 hi hz S5 R hR => ?_) (fun H5 S5 hx5 => ?_)
        · rw [List.map_map, List.getElem?_map] at hz
          obtain ⟨c, hc, rfl⟩ := Option.map_eq_some_iff.mp hz
          obtain rfl : i = c := by rw [List.getElem?_range hi] at hc; exact Option.some.inj hc
          rw [Int.zero_add]
          walk_at "rd"
          refine ⟨rfl, ?_⟩
          walk_at "rd"
          exact ⟨t, u, k, W, M, _, rfl, (hw.same S12).same S5, (tb.same S12).same S5, g, g2, by constructor <;> omega, fun H6 S6 => hR H6 S6⟩
        · walk_at "rd"
          refine rd_all hx5 ?_
          have e : ((List.range k).map fun b => mov1 k W M ((b : Nat) : Int)).all id = movB k W M := by
            unfold movB
            rw [List.all_map]; rfl
          rw [e]
          exact hQ H5 (S12.trans S5)
    | false =>
      clear h1 t1
      obtain ⟨b2, t2, e2, h3⟩ := h2 rfl
      refine iteF' rfl ?_
      walk_at "rd"
      refine ⟨x, "round", 2, b2, rfl, t2.same S1, okR, fun H2 S2 => ?_⟩
      have S12 := S1.trans S2
      walk_at "rd"
      cases b2 with
      | false =>
        rw [e2 rfl] at hQ
        walk_at "rd"
        exact hQ H2 S12
      | true =>
        obtain ⟨a, z, rfl, ha, fin⟩ := h3 rfl
        walk_at "rd"
        refine iteF' rfl ?_
        walk_at "rd"
        refine rd_ixT (ha.same S12) rfl ?_
        walk_at "rd"
        rcases fin with ⟨nt, rfl⟩ | ⟨q, ys, os, rfl, hy, ly, po, fin⟩
        · cases nt with
          | ntp ty q =>
            refine ⟨_, 4, rfl, .inl ⟨_, tyx_same ty S12, q, ?_⟩⟩
            walk_at "rd"
            exact hQ H2 S12
          | @len a xs h l =>
            refine ⟨_, 4, rfl, .inr ⟨a, xs, rfl, h.same S12, ?_⟩⟩
            rw [show decide (((xs.length : Nat) : Int) = 4) = false from decide_eq_false (by omega)]
            walk_at "rd"
            exact hQ H2 S12
        · refine ⟨_, 4, rfl, .inr ⟨q, ys, rfl, hy.same S12, ?_⟩⟩
          rw [show decide (((ys.length : Nat) : Int) = 4) = true from decide_eq_true (by omega)]
          walk_at "rd"
          refine iteF' rfl ?_
          walk_at "rd"
          refine rd_ixT (ha.same S12) rfl ?_
          refine ⟨q, rfl, ⟨_, (hy.same S12).sq⟩, fun D hD => ?_⟩
          have lo := paired_len po
          refine lcv_tup (xs := ys) (os.map fun o => V.bl (belB o k)) (hy.same S12) (by rw [List.length_map]; omega) (by rw [List.length_map]; omega) hD (fun i y z2 H5 hy5 hz S5 R hR => ?_) (fun H5 S5 hx5 => ?_)
          · rw [List.getElem?_map] at hz
            obtain ⟨o, ho, rfl⟩ := Option.map_eq_some_iff.mp hz
            obtain ⟨o', ho', ko⟩ := paired_get po hy5
            rw [ho] at ho'
            cases ho'
            walk_at "rd"
            refine ⟨rfl, ?_⟩
            walk_at "rd"
            exact ⟨y, o, ((k : Nat) : Int), rfl, kin_same ko (S12.trans S5), hR H5 (Same.refl _)⟩
          · have S15 := S12.trans S5
            have e : (os.map fun o => V.bl (belB o k)) = (os.map fun o => belB o k).map V.bl := by simp
            rw [e] at hx5
            walk_at "rd"
            refine rd_all hx5 ?_
            have e2 : (os.map fun o => belB o k).all id = os.all fun o => belB o k := by rw [List.all_map]; rfl
            rw [e2]
            walk_at "rd"
            rcases fin with ⟨eb, rfl⟩ | ⟨eb, e, rfl, b1, b2, b3, b4, rfl⟩
            · rw [eb]
              refine iteT' rfl ?_
              walk_at "rd"
              exact hQ H5 S15
            · rw [eb]
              refine iteF' rfl ?_
              walk_at "rd"
              refine rd_ixT (ha.same S15) rfl ?_
              walk_at "rd"
              refine rd_gtup (hy.same S15) rfl ?_
              walk_at "rd"
              refine ⟨t, k, W, e.1, e.2.1, e.2.2.1, e.2.2.2, rfl, hw.same S15, g, b1, b2, b3, b4, fun H6 S6 => ?_⟩
              walk_at "rd"
              exact hQ H6 (S15.trans S6)
end
end K69

namespace K69
open PySem PySem.Spec PyProof.Rows L2 KX
local macro_rules | `(tactic| walk_at "rd1") => `(tactic| first
  | with_reducible refine rd_seq ?_
  | with_reducible refine rd_for ?_
  | with_reducible refine rd_lc ?_
  | with_reducible refine rd_asg ?_
  | ((with_reducible refine' rd_var ?rdv ?_); (case rdv => exact rfl))
  | with_reducible refine rd_c ?_
  | with_reducible refine rd_op ?_
  | with_reducible refine rd_un ?_
  | with_reducible refine rd_cons ?_
  | with_reducible refine rd_nil ?_
  | with_reducible refine rd_call ?_
  | with_reducible refine rd_cb ?_
  | with_reducible refine rd_tB ?_
  | with_reducible refine rd_test ?_
  | with_reducible refine rd_bl ?_
  | with_reducible refine rd_rI0 ?_
  | with_reducible refine rd_eqI ?_
  | with_reducible refine rd_neI ?_
  | with_reducible refine rd_rU ?_
  | with_reducible refine rd_name ?_
  | with_reducible refine rd_ifs ?_
  | with_reducible refine rd_and ?_
  | with_reducible refine rd_or ?_
  | with_reducible refine rd_not ?_
  | with_reducible refine rd_yes ?_
  | with_reducible refine rd_andV ?_
  | with_reducible refine rd_orV ?_
  | with_reducible refine rd_notV ?_
  | with_reducible refine rd_if ?_
  | with_reducible refine rd_isN ?_
  | with_reducible refine rd_iT ?_
  | with_reducible refine rd_iF ?_
  | with_reducible refine rd_ret ?_
  | with_reducible refine rd_retN ?_
  | with_reducible refine rd_drop ?_
  | with_reducible refine rd_next ?_
  | with_reducible refine rd_cont ?_
  | with_reducible refine rd_brk ?_
  | with_reducible refine rd_nx ?_
  | with_reducible refine rd_rt ?_
  | with_reducible refine rd_ct ?_
  | with_reducible refine rd_bk ?_
  | with_reducible refine rd_par ?_
  | with_reducible refine rd_par3 ?_
  | with_reducible refine rd_par2 ?_
  | with_reducible refine rd_par33 ?_
  | with_reducible refine rd_gcons ?_
  | with_reducible refine rd_gnil ?_
  | with_reducible refine rd_sub ?_
  | with_reducible refine rd_tup ?_
  | with_reducible refine rd_lst ?_
  | ((with_reducible refine rd_tupT ?hl ?_); (case hl => exact Nat.le_of_ble_eq_true rfl))
  | ((with_reducible refine rd_lstT ?hl ?_); (case hl => exact Nat.le_of_ble_eq_true rfl))
  | with_reducible refine rd_bm ?_
  | with_reducible refine rd_bm0 ?_
  | with_reducible refine rd_sl ?_
  | with_reducible refine rd_noP ?_
  | with_reducible refine rd_part ?_
  | with_reducible refine rd_int ?_
  | with_reducible refine rd_int1 ?_
  | with_reducible refine rd_fld ?_
  | with_reducible refine rd_then ?_
  | with_reducible refine rd_raise ?_
  | with_reducible refine rd_one ?_
  | with_reducible refine rd_sfld ?_
  | with_reducible refine rd_ilist ?_
  | with_reducible refine rd_itup ?_
  | with_reducible refine rd_rng1 ?_
  | with_reducible refine rd_enum ?_
  | with_reducible refine rd_enumT ?_)
local macro_rules | `(tactic| walk_at "rd") => `(tactic| repeat (walk_at "rd1"))
/-! ### square tables under way -/
structure Sx (k : Nat) (c : Int) (M : List (List Int)) : Prop where
  l : M.length = k
  r : ∀ r ∈ M, r.length = k
  b : ∀ r ∈ M, ∀ x ∈ r, -c ≤ x ∧ x ≤ c
def set2 (M : List (List Int)) (a b x : Int) : List (List Int) := M.set a.toNat ((rowOf M a).set b.toNat x)
theorem Sx.put {k : Nat} {c : Int} {M : List (List Int)} {a b x : Int} (h : Sx k c M) (a0 : 0 ≤ a) (a1 : a < (k : Nat)) (hx : -c ≤ x ∧ x ≤ c) : Sx k c (set2 M a b x) := by
  have l1 := h.l
  have ra := rowOf_mem' (W := M) a0 (by omega)
  unfold set2
  refine ⟨by rw [List.length_set]; exact h.l, fun r hr => ?_, fun r hr y hy => ?_⟩
  · rcases List.mem_or_eq_of_mem_set hr with z | z
    · exact h.r r z
    · rw [z, List.length_set]; exact h.r _ ra
  · rcases List.mem_or_eq_of_mem_set hr with z | z
    · exact h.b r z y hy
    · rw [z] at hy
      rcases List.mem_or_eq_of_mem_set hy with w | w
      · exact h.b _ ra y w
      · rw [w]; exact hx
theorem Sx.mono {k : Nat} {c d : Int} {M : List (List Int)} (h : Sx k c M) (l : c ≤ d) : Sx k d M := ⟨h.l, h.r, fun r hr x hx => by have := h.b r hr x hx; omega⟩
theorem Sx.zero {k : Nat} {c : Int} (c0 : 0 ≤ c) : Sx k c (List.replicate k (List.replicate k 0)) := by
  refine ⟨List.length_replicate, fun r hr => ?_, fun r hr x hx => ?_⟩
  · rw [List.eq_of_mem_replicate hr]; exact List.length_replicate
  · rw [List.eq_of_mem_replicate hr] at hx
    rw [List.eq_of_mem_replicate hx]
    omega
theorem Rows.put {H : Hp} {N : Addr} {rs : List Addr} {R : List (List Int)} (h : Rows H N rs R) {k : Nat} {r : Addr} (row : List Int) (hr : rs[k]? = some r) :
    Rows (upd H r (.lst (row.map V.int))) N rs (R.set k row) := by
  have mem : r ∈ rs := List.mem_of_getElem? hr
  refine ⟨by rw [upd_ne (fun z => h.out (by rw [z]; exact mem))]; exact h.at_, ?_, h.nd, h.out⟩
  have gen : ∀ {l : List Addr} {m : List (List Int)} (k : Nat), Paired (fun r (row : List Int) => H r = some (.lst (row.map V.int))) l m → l.Nodup → l[k]? = some r →
      Paired (fun q (row' : List Int) => upd H r (.lst (row.map V.int)) q = some (.lst (row'.map V.int))) l (m.set k row) := by
    intro l m k p
    induction p generalizing k with
    | nil => intro _ z; simp at z
    | @cons x y l m hxy q ih =>
      intro nd z
      have nd' := (List.nodup_cons.mp nd)
      cases k with
      | zero =>
        simp at z
        subst z
        refine .cons (by show upd H x _ x = _; rw [upd_same]) ?_
        have gen2 : ∀ {l : List Addr} {m : List (List Int)}, Paired (fun r (row : List Int) => H r = some (.lst (row.map V.int))) l m → x ∉ l → Paired (fun q (row' : List Int) => upd H x (.lst (row.map V.int)) q = some (.lst (row'.map V.int))) l m := by
          intro l m p
          induction p with
          | nil => intro _; exact .nil
          | @cons u v l m huv _ ih2 =>
            intro hx
            refine .cons ?_ (ih2 fun z => hx (List.mem_cons_of_mem _ z))
            show upd H x _ u = _
            rw [upd_ne (fun z => hx (by rw [z]; exact List.mem_cons_self))]
            exact huv
        exact gen2 q nd'.1
      | succ j =>
        simp at z
        refine .cons ?_ (ih j nd'.2 z)
        show upd H r _ x = _
        rw [upd_ne (fun e => nd'.1 (by rw [e]; exact List.mem_of_getElem? z))]
        exact hxy
  exact gen k h.rows h.nd hr
theorem Rows.fix {p q : Addr} {H H' : Hp} {N : Addr} {rs : List Addr} {R : List (List Int)} (h : Rows H N rs R) (f : Fix p q H H') (np : N ≠ p) (nq : N ≠ q) (hr : ∀ r ∈ rs, r ≠ p ∧ r ≠ q) : Rows H' N rs R := by
  refine ⟨f _ _ np nq h.at_, ?_, h.nd, h.out⟩
  have gen : ∀ {l : List Addr} {m : List (List Int)}, Paired (fun r (row : List Int) => H r = some (.lst (row.map V.int))) l m → (∀ r ∈ l, r ≠ p ∧ r ≠ q) → Paired (fun r (row : List Int) => H' r = some (.lst (row.map V.int))) l m := fun {l m} z => by
    induction z with
    | nil => intro _; exact .nil
    | cons a _ ih =>
      intro hl
      obtain ⟨h1, h2⟩ := hl _ List.mem_cons_self
      exact .cons (f _ _ h1 h2 a) (ih fun r hr => hl r (List.mem_cons_of_mem _ hr))
  exact gen h.rows hr
/-- a table of lists under way: D its rows' list, all of it new behind H -/
structure Tb (p q D : Addr) (rs : List Addr) (H H' : Hp) (k : Nat) (c : Int) (M : List (List Int)) : Prop where
  d0 : Deal H p q
  d : Deal H' p q
  f : Fix p q H H'
  rows : Rows H' D rs M
  s : Sx k c M
  fr : ∀ r ∈ rs, H r = none
  fD : H D = none
section
variable {p q D : Addr} {rs : List Addr} {H H' H'' : Hp} {k : Nat} {c : Int} {M : List (List Int)}
theorem Tb.fix (h : Tb p q D rs H H' k c M) (d : Deal H'' p q) (f : Fix p q H' H'') : Tb p q D rs H H'' k c M :=
  ⟨h.d0, d, h.f.trans f, h.rows.fix f (h.d0.nes h.fD).1 (h.d0.nes h.fD).2 fun r hr => h.d0.nes (h.fr r hr), h.s, h.fr, h.fD⟩
theorem Tb.same (h : Tb p q D rs H H' k c M) (S : Same H' H'') : Tb p q D rs H H'' k c M := h.fix (h.d.same S) (Fix.same S)
theorem Tb.row (h : Tb p q D rs H H' k c M) {a : Int} (a0 : 0 ≤ a) (a1 : a < (k : Nat)) : ∃ r, rs[a.toNat]? = some r ∧ atI (rs.map V.ref) a = some (.ref r) := by
  obtain ⟨r, e1, e2, _⟩ := h.rows.row' a0 (by rw [h.s.l]; exact a1)
  exact ⟨r, e1, e2⟩
theorem Tb.get (h : Tb p q D rs H H' k c M) {a b : Int} {r : Addr} (a0 : 0 ≤ a) (a1 : a < (k : Nat)) (b1 : b < (k : Nat)) (e : rs[a.toNat]? = some r) :
    H' r = some (.lst ((rowOf M a).map V.int)) ∧ b < (((rowOf M a).map V.int).length : Nat) := by
  obtain ⟨r', e1, _, e2⟩ := h.rows.row' a0 (by rw [h.s.l]; exact a1)
  rw [e] at e1
  cases e1
  refine ⟨e2, ?_⟩
  rw [List.length_map, h.s.r _ (rowOf_mem' a0 (by rw [h.s.l]; exact a1))]
  exact b1
theorem Tb.put (h : Tb p q D rs H H' k c M) {a b x : Int} {r : Addr} (a0 : 0 ≤ a) (a1 : a < (k : Nat)) (e : rs[a.toNat]? = some r) (hx : -c ≤ x ∧ x ≤ c) :
    Tb p q D rs H (upd H' r (.lst (((rowOf M a).map V.int).set b.toNat (.int x)))) k c (set2 M a b x) := by
  have m : r ∈ rs := List.mem_of_getElem? e
  have n := h.fr r m
  have z := h.rows.put ((rowOf M a).set b.toNat x) e
  rw [List.map_set] at z
  exact ⟨h.d0, h.d.off (h.d0.nes n).1 (h.d0.nes n).2, h.f.upd n, z, h.s.put a0 a1 hx, h.fr, h.fD⟩
theorem Tb.ls (h : Tb p q D rs H H' k c M) {a : Int} {r l : Addr} {xs ys : List V} (e : rs[a.toNat]? = some r) (hl : H' l = some (.lst xs)) (nl : l ∉ rs) : upd H' r (.lst ys) l = some (.lst xs) := by
  rw [upd_ne (fun z => nl (by rw [z]; exact List.mem_of_getElem? e))]
  exact hl
end
theorem rd_rng2 {ta : TA} {σ : L2.St} {H : Hp} {R : It → Hp → Prop} (h : ta σ H fun vs H1 => ∃ i j : Int, vs = [.int i, .int j] ∧ (-(2 ^ 62) ≤ i ∧ i < 2 ^ 62 ∧ -(2 ^ 62) ≤ j ∧ j < 2 ^ 62) ∧ R (Itr i (j - i).toNat) H1) : iRng2 ta σ H R := h
theorem rd_getL {K : PySem.W.Frag} {p : Addr} {xs : List V} {k : Int} {v : V} {H : Hp} {Q : VK} (hp : H p = some (.lst xs)) (h0 : 0 ≤ k) (hv : xs[k.toNat]? = some v) (h : Q v H) : rGetL K (.ref p) (.int k) H Q := ⟨p, xs, k, v, rfl, rfl, SqL.of hp, h0, hv, h⟩
theorem rd_ip {f : Int → Int → Int} {i j : Int} {H : Hp} {Q : VK} (h : Q (.int (f i j)) H) : ipI f (.int i) (.int j) H Q := ⟨i, j, rfl, rfl, h⟩
theorem modeAt_nth {ms : List Int} {i : Int} (h0 : 0 ≤ i) (h1 : i < ms.length) : (ms.map V.int)[i.toNat]? = some (.int (modeAt ms i)) := by
  unfold modeAt
  rw [List.getElem?_map, List.getElem?_eq_getElem (by omega), List.getD_eq_getElem?_getD, List.getElem?_eq_getElem (by omega)]; rfl
theorem rd_augS {to ti te : TE} {tget : V → V → Hp → VK → Prop} {tip : TIp} {tset : TSet} {D : Ends} {σ : L2.St} {H : Hp} (h : to σ H fun o H1 => ti σ H1 fun i H2 => tget o i H2 fun x H3 => te σ H3 fun y H4 => tip x y H4 fun z H5 => tset o i z H5 fun H6 => D.nx σ H6) : tAugS to ti te tget tip tset D σ H := h
/-- what is added to each row -/
def addRow (k : Nat) (mv row : List Int) : List Int := (List.range k).map fun j => modeAt row ((j : Nat) : Int) + modeAt mv ((j : Nat) : Int)
def spLTable : L2.Sp := fun vs H Q _ => ∃ (p q : Addr) (k : Nat), vs = [.ref p, .int (k : Nat)] ∧ Deal H p q ∧ 1 ≤ k ∧ k ≤ 4 ∧
  ∀ H' t W, Deal H' p q → Fix p q H H' → TabAt H' t W → Tk k W → okT W = true → Q (.ref t) H'
theorem addRow_sx {k : Nat} {mv : List Int} {M : List (List Int)} (h : Sx k 200 M) (lm : mv.length = k) (bm : ∀ x ∈ mv, -4 ≤ x ∧ x ≤ 4) : Sx k 204 (M.map (addRow k mv)) := by
  refine ⟨by rw [List.length_map]; exact h.l, fun r hr => ?_, fun r hr x hx => ?_⟩
  · obtain ⟨row, _, rfl⟩ := List.mem_map.mp hr
    unfold addRow
    rw [List.length_map, List.length_range]
  · obtain ⟨row, hrow, rfl⟩ := List.mem_map.mp hr
    unfold addRow at hx
    obtain ⟨j, hj, rfl⟩ := List.mem_map.mp hx
    have hj := List.mem_range.mp hj
    have lr := h.r row hrow
    have b1 := h.b row hrow _ (modeAt_mem (ms := row) (i := ((j : Nat) : Int)) (by omega) (by omega))
    have b2 := bm _ (modeAt_mem (ms := mv) (i := ((j : Nat) : Int)) (by omega) (by omega))
    omega
theorem Sx.tk {k : Nat} {c : Int} {M : List (List Int)} (h : Sx k c M) (k1 : 1 ≤ k) (k4 : k ≤ 4) : Tk k M := ⟨h.l, h.r, k1, k4⟩
theorem Sx.okT {k : Nat} {c : Int} {M : List (List Int)} (h : Sx k c M) (hc : c ≤ 1000) : okT M = true := by
  unfold K69.okT
  rw [List.all_eq_true]
  intro r hr
  rw [List.all_eq_true]
  intro x hx
  have := h.b r hr x hx
  refine decide_eq_true ?_
  split <;> omega
section
variable {P : Program} {w : World} {K : PySem.W.Frag} {mg : Str → Option Value} {base : Heap} (T : TX K mg)
theorem G__law_table : FnOk P w K mg base CX0 3 T.f__law_table T.d__law_table ["deal", "kinds"] spLTable := by
  refine T.F__law_table.ok sc__law_table (fun vs H Q E h => ?_) fun cdv A outer s H vs Q E hr h => ⟨_, (pss_cons (ps_asg (pe_tup (pa_cons (pe_call (G__law_any T) (hr.mono (by decide)) (by rfl) T.m__law_any T.F__law_any.kp T.b__law_any .nil pass0 (by exact (pa_cons (pv 0) (pa_cons pe_int pa_nil)))) (pa_cons (by exact (pe_lc (own := [("one", 2)]) (by rfl) sc__law_table.nd (pi_range1 (by rfl) T.n_range (by exact (pa_cons (pv 1) pa_nil))) (blkOk_by (own := [("one", 2)]) (N := N__law_table) (sc := defScope s__law_table) (by decide +kernel)) (fun _ _ _ _ _ => (pg_name (i := 2) sc__law_table.nd rfl (.inl rfl))) (fun _ _ _ _ _ => pts_nil) (fun _ _ _ _ _ => (pe_op op_rep (pe_lst (pa_cons pe_int pa_nil)) (pv 1))) )) pa_nil))) (pg_tupK (K := K) (n := 2) (by rfl) (pgs_cons (pg_name (i := 3) sc__law_table.nd rfl (.inr rfl)) (pgs_cons (pg_name (i := 4) sc__law_table.nd rfl (.inl rfl)) pgs_nil)))) (pss_cons (ps_set (i := 5) sc__law_table.nd rfl (.inr rfl) (by exact (pe_lc (own := [("mode", 9)]) (by rfl) sc__law_table.nd (pi_range1 (by rfl) T.n_range (by exact (pa_cons (pv 1) pa_nil))) (blkOk_by (own := [("mode", 9)]) (N := N__law_table) (sc := defScope s__law_table) (by decide +kernel)) (fun _ _ _ _ _ => (pg_name (i := 9) sc__law_table.nd rfl (.inl rfl))) (fun _ _ _ _ _ => pts_nil) (fun _ _ _ _ _ => (pe_ifExp (pt_cmpR op_gt (pv 3) pe_int (nomark _)) (pe_op op_sub (pe_call (G__law_any T) (hr.mono (by decide)) (by rfl) T.m__law_any T.F__law_any.kp T.b__law_any .nil pass0 (by exact (pa_cons (pv 0) (pa_cons pe_int pa_nil)))) pe_int) pe_int)) ))) (pss_cons (ps_for PassesOwn.never rfl (pi_range1 (by rfl) T.n_range (by exact (pa_cons (pv 1) pa_nil))) (pg_name (i := 2) sc__law_table.nd rfl (.inl rfl)) (pss_one (ps_for PassesOwn.never rfl (pi_range2 (by rfl) T.n_range (by exact (pa_cons (pv 2) (pa_cons (pv 1) pa_nil)))) (pg_name (i := 6) sc__law_table.nd rfl (.inl rfl)) (pss_cons (ps_set (i := 7) sc__law_table.nd rfl (.inl rfl) (pe_ifExp (pt_cmpR op_eq (pe_call (G__law_any T) (hr.mono (by decide)) (by rfl) T.m__law_any T.F__law_any.kp T.b__law_any .nil pass0 (by exact (pa_cons (pv 0) (pa_cons pe_int pa_nil)))) pe_int (nomark _)) (pe_op op_sub (pe_call (G__law_any T) (hr.mono (by decide)) (by rfl) T.m__law_any T.F__law_any.kp T.b__law_any .nil pass0 (by exact (pa_cons (pv 0) (pa_cons pe_int pa_nil)))) pe_int) (pe_op op_sub (pe_call (G__law_any T) (hr.mono (by decide)) (by rfl) T.m__law_any T.F__law_any.kp T.b__law_any .nil pass0 (by exact (pa_cons (pv 0) (pa_cons pe_int pa_nil)))) pe_int))) (pss_cons (ps_set (i := 8) sc__law_table.nd rfl (.inl rfl) (pe_ix (ix_listK (K := K)) (pv 4) (pv 2) (fun _ _ => rfl))) (pss_cons (ps_asg (pv 7) (pg_sub (pv 8) (pv 6) set_list)) (pss_cons (ps_set (i := 8) sc__law_table.nd rfl (.inl rfl) (pe_ix (ix_listK (K := K)) (pv 4) (pv 6) (fun _ _ => rfl))) (pss_one (ps_asg (pe_ifExp (pt_cmpR op_lt (pv 3) pe_int (nomark _)) (pv 7) (pe_op op_sub (pe_call (G__law_any T) (hr.mono (by decide)) (by rfl) T.m__law_any T.F__law_any.kp T.b__law_any .nil pass0 (by exact (pa_cons (pv 0) (pa_cons pe_int pa_nil)))) pe_int)) (pg_sub (pv 8) (pv 2) set_list)))))))))) (pss_cons (ps_setLc (i := 4) (own := [("row", 8)]) (by rfl) sc__law_table.nd rfl rfl (sw_true rfl rfl rfl (by decide +kernel)) (pi_listK (K := K) (pv 4)) (blkOk_by (own := [("row", 8)]) (N := N__law_table) (sc := defScope s__law_table) (by decide +kernel)) (fun _ _ _ _ _ => (pg_name (i := 8) sc__law_table.nd rfl (.inr rfl))) (fun _ _ _ _ _ => pts_nil) (fun _ _ _ _ _ => (by exact (pe_lc (own := [("at", 10)]) (by rfl) sc__law_table.nd (pi_range1 (by rfl) T.n_range (by exact (pa_cons (pv 1) pa_nil))) (blkOk_by (own := [("at", 10)]) (N := N__law_table) (sc := ({ kind := PySem.ScopeKind.function, names := [(PySem.Str.ofString ".0", PySem.NameKind.local), (PySem.Str.ofString "row", PySem.NameKind.cell), (PySem.Str.ofString "range", PySem.NameKind.globalImplicit), (PySem.Str.ofString "kinds", PySem.NameKind.cell), (PySem.Str.ofString "more", PySem.NameKind.cell)], isGenerator := false, isCoroutine := false, more := [] } : PySem.Scope)) (by decide +kernel)) (fun _ _ _ _ _ => (pg_name (i := 10) sc__law_table.nd rfl (.inl rfl))) (fun _ _ _ _ _ => pts_nil) (fun _ _ _ _ _ => (pe_op op_add (pe_ix (ix_listK (K := K)) (pv 8) (pv 10) (fun _ _ => rfl)) (pe_ix (ix_listK (K := K)) (pv 5) (pv 10) (fun _ _ => rfl)))) ))) ) (pss_cons (ps_if (pt_cmpR op_eq (pv 3) pe_int (nomark _)) (pss_cons (ps_set (i := 8) sc__law_table.nd rfl (.inl rfl) (pe_ix (ix_listK (K := K)) (pv 4) (pe_call (G__law_any T) (hr.mono (by decide)) (by rfl) T.m__law_any T.F__law_any.kp T.b__law_any .nil pass0 (by exact (pa_cons (pv 0) (pa_cons (pv 1) pa_nil)))) (fun _ _ => rfl))) (pss_one (ps_augS (pv 8) (pe_call (G__law_any T) (hr.mono (by decide)) (by rfl) T.m__law_any T.F__law_any.kp T.b__law_any .nil pass0 (by exact (pa_cons (pv 0) (pa_cons (pv 1) pa_nil)))) (get_listK (K := K)) (pe_op op_sub pe_int (pe_op op_mul pe_int (pe_call (G__law_any T) (hr.mono (by decide)) (by rfl) T.m__law_any T.F__law_any.kp T.b__law_any .nil pass0 (by exact (pa_cons (pv 0) (pa_cons pe_int pa_nil)))))) ip_add set_list))) pss_nil) (pss_one (ps_ret (pe_tupleK (K := K) (by rfl) T.n_tuple (by exact (pe_lc (own := [("row", 8)]) (by rfl) sc__law_table.nd (pi_listK (K := K) (pv 4)) (blkOk_by (own := [("row", 8)]) (N := N__law_table) (sc := defScope s__law_table) (by decide +kernel)) (fun _ _ _ _ _ => (pg_name (i := 8) sc__law_table.nd rfl (.inl rfl))) (fun _ _ _ _ _ => pts_nil) (fun _ _ _ _ _ => (pe_tupleK (K := K) (by rfl) T.n_tuple (pv 8))) )))))))))), ?_⟩
  · obtain ⟨p, q, k, rfl, _⟩ := h
    rfl
  · obtain ⟨p, q, k, rfl, d, k1, k4, hQ⟩ := h
    walk_at "rd"
    refine ⟨p, q, 5, rfl, d, by decide, by decide, fun H1 fm d1 f1 fm0 fm1 => ?_⟩
    walk_at "rd"
    refine ⟨by omega, by omega, fun D hD => ?_⟩
    refine lc_range (lo := 0) (n := k) (fun i H' => Same H1 H' ∧ ∃ rs : List Addr, rs.length = i ∧ H' D = some (.lst (rs.map V.ref)) ∧ (∀ r ∈ rs, H' r = some (.lst (List.replicate k (.int 0))) ∧ H1 r = none) ∧ rs.Nodup ∧ D ∉ rs)
      ⟨Same.fresh hD, [], rfl, upd_same, by simp, List.nodup_nil, by simp⟩ (fun i H2 hi pv => ?_) (fun H2 pv => ?_)
    · obtain ⟨S2, rs, hl, hNr, hrs, nd, out⟩ := pv
      walk_at "rd"
      refine ⟨rfl, ?_⟩
      walk_at "rd"
      intro l1 H3 z3 S3 hl1
      walk_at "rd"
      refine rd_rep1 hl1 (by omega) ?_
      intro r H4 z4 S4 hr4
      have S24 := S3.trans S4
      have r0 : H2 r = none := S3.free z4
      have hN4 := S24 _ _ hNr
      have nr : D ≠ r := fun z => by rw [z, r0] at hNr; cases hNr
      have nrs : r ∉ rs := fun z => by
        have := (hrs r z).1
        rw [r0] at this; cases this
      refine ⟨_, hN4, by rw [List.length_map, hl]; exact Nat.lt_of_lt_of_le (by omega : i < 1000) (by decide), Same.put (S2.trans S24) hD, rs ++ [r], by simp [hl], by rw [upd_same]; simp, fun q hq => ?_, ?_, ?_⟩
      · rcases List.mem_append.mp hq with h | h
        · have nq : q ≠ D := fun z => out (by rw [← z]; exact h)
          rw [upd_ne nq]
          exact ⟨S24 _ _ (hrs q h).1, (hrs q h).2⟩
        · rw [List.mem_singleton.mp h, upd_ne (Ne.symm nr)]
          exact ⟨hr4, S2.free r0⟩
      · exact List.nodup_append.mpr ⟨nd, by simp, fun a ha b hb => by
          rw [List.mem_singleton.mp hb]
          exact fun z => nrs (by rw [← z]; exact ha)⟩
      · intro z
        rcases List.mem_append.mp z with h | h
        · exact out h
        · exact nr (List.mem_singleton.mp h)
    · obtain ⟨S2, rs, lrs, hNr, hrs, nd, out⟩ := pv
      have R0 : Rows H2 D rs (List.replicate k (List.replicate k 0)) := by
        refine ⟨hNr, ?_, nd, out⟩
        have gen : ∀ l : List Addr, (∀ r ∈ l, H2 r = some (.lst (List.replicate k (.int 0)))) → Paired (fun r (row : List Int) => H2 r = some (.lst (row.map V.int))) l (List.replicate l.length (List.replicate k 0)) := by
          intro l
          induction l with
          | nil => intro _; exact .nil
          | cons x l ih => intro h; exact .cons (by rw [List.map_replicate]; exact h x List.mem_cons_self) (ih fun r hr => h r (List.mem_cons_of_mem _ hr))
        have := gen rs fun r hr => (hrs r hr).1
        rwa [lrs] at this
      have T0 : Tb p q D rs H H2 k 200 (List.replicate k (List.replicate k 0)) := ⟨d, d1.same S2, f1.trans (Fix.same S2), R0, Sx.zero (by decide), fun r hr => f1.free d1 (hrs r hr).2, f1.free d1 hD⟩
      clear R0 hNr hrs nd out lrs S2 hD f1 d1
      walk_at "rd"
      intro tt H3 z3 S3 htt
      refine rd_gtup (Tup.of htt) rfl ?_
      have T3 := T0.same S3
      clear T0 S3 htt z3
      walk_at "rd"
      refine ⟨by omega, by omega, fun e he => ?_⟩
      have T4 : Tb p q D rs H (upd H3 e (.lst [])) k 200 (List.replicate k (List.replicate k 0)) := T3.same (Same.fresh he)
      obtain ⟨ep, eq⟩ := T3.d.nes he
      have ers : e ∉ rs := fun z => by
        obtain ⟨j, hj⟩ := List.getElem?_of_mem z
        obtain ⟨y, _, hy⟩ := paired_get T3.rows.rows hj
        rw [he] at hy
        cases hy
      have eD : e ≠ D := fun z => by
        have := T3.rows.at_
        rw [← z, he] at this
        cases this
      refine lc_range (lo := 0) (n := k) (fun i H' => Deal H' p q ∧ Fix p q H3 H' ∧ ∃ mv : List Int, H' e = some (.lst (mv.map V.int)) ∧ mv.length = i ∧ ∀ x ∈ mv, -4 ≤ x ∧ x ≤ 4)
        ⟨T4.d, Fix.new he, [], upd_same, rfl, by simp⟩ (fun i H5 hi pv => ?_) (fun H5 pv => ?_)
      · obtain ⟨d5, f5, mv, hmv, lmv, bmv⟩ := pv
        have put : ∀ (H6 : Hp) (j : Int), Deal H6 p q → Fix p q H5 H6 → -4 ≤ j → j ≤ 4 → ∃ acc, H6 e = some (.lst acc) ∧ acc.length < sizeLine ∧ (Deal (upd H6 e (.lst (acc ++ [V.int j]))) p q ∧ Fix p q H3 (upd H6 e (.lst (acc ++ [V.int j]))) ∧
            ∃ ms : List Int, upd H6 e (.lst (acc ++ [V.int j])) e = some (.lst (ms.map V.int)) ∧ ms.length = i + 1 ∧ ∀ m ∈ ms, -4 ≤ m ∧ m ≤ 4) := fun H6 j d6 f6 j0 jk => by
          refine ⟨_, f6 _ _ ep eq hmv, ?_, d6.off ep eq, (f5.trans f6).upd he, mv ++ [j], ?_, by simp [lmv], fun m hm => ?_⟩
          · rw [List.length_map]
            exact Nat.lt_of_le_of_lt (by omega : mv.length ≤ 100) (by decide)
          · rw [upd_same]; simp
          · rcases List.mem_append.mp hm with z | z
            · exact bmv m z
            · rw [List.mem_singleton.mp z]; omega
        walk_at "rd"
        refine ⟨rfl, ?_⟩
        walk_at "rd"
        by_cases c : fm > 0
        · refine iteT' (decide_eq_true c) ?_
          walk_at "rd"
          refine ⟨p, q, 9, rfl, d5, by decide, by decide, fun H6 j d6 f6 j0 j1 => ?_⟩
          walk_at "rd"
          exact put H6 _ d6 f6 (by omega) (by omega)
        · refine iteF' (decide_eq_false c) ?_
          walk_at "rd"
          exact put H5 0 d5 (Fix.refl _ _ _) (by omega) (by omega)
      · obtain ⟨d5, f5, mv, hmv, lmv, bmv⟩ := pv
        have T5 := T3.fix d5 f5
        clear T4 T3 he f5 d5
        walk_at "rd"
        refine ⟨by omega, by omega, ?_⟩
        refine for_range (lo := 0) (n := k) (fun i σ H' => (∃ o2 o6 o7 o8, σ = [some (.ref p), some (.int (k : Nat)), o2, some (.int fm), some (.ref D), some (.ref e), o6, o7, o8, none, none]) ∧ H' e = some (.lst (mv.map V.int)) ∧ ∃ M, Tb p q D rs H H' k 200 M)
          ⟨⟨_, _, _, _, rfl⟩, hmv, _, T5⟩ (fun i σ H6 hi pv => ?_) (fun σ H6 pv => ?_)
        · obtain ⟨⟨o2, o6, o7, o8, rfl⟩, he6, M6, t6⟩ := pv
          rw [Int.zero_add]
          walk_at "rd"
          refine rd_rng2 ?_
          walk_at "rd"
          refine ⟨_, _, rfl, ⟨by omega, by omega, by omega, by omega⟩, ?_⟩
          have ek : (((k : Nat) : Int) - ((i : Nat) : Int)).toNat = k - i := by omega
          rw [ek]
          refine for_range (lo := ((i : Nat) : Int)) (n := k - i) (fun j σ H' => (∃ o6 o7 o8, σ = [some (.ref p), some (.int (k : Nat)), some (.int (i : Nat)), some (.int fm), some (.ref D), some (.ref e), o6, o7, o8, none, none]) ∧ H' e = some (.lst (mv.map V.int)) ∧ ∃ M, Tb p q D rs H H' k 200 M)
            ⟨⟨_, _, _, rfl⟩, he6, _, t6⟩ (fun j σ H7 hj pv => ?_) (fun σ H7 pv => ?_)
          · clear t6 he6 T5 hmv
            obtain ⟨⟨o6, o7, o8, rfl⟩, he7, M, t7⟩ := pv
            obtain ⟨c, hc⟩ : ∃ c : Int, ((i : Nat) : Int) + ((j : Nat) : Int) = c := ⟨_, rfl⟩
            rw [hc]
            have c0 : 0 ≤ c := by omega
            have c1 : c < (k : Nat) := by omega
            have i1 : ((i : Nat) : Int) < (k : Nat) := by omega
            clear hc
            walk_at "rd"
            refine ⟨p, q, 6, rfl, t7.d, by decide, by decide, fun Hx z dx fx z0 z1 => ?_⟩
            have tx := t7.fix dx fx
            have hex := fx _ _ ep eq he7
            walk_at "rd"
            by_cases cz : z = 0
            · refine iteT' (decide_eq_true cz) ?_
              walk_at "rd"
              refine ⟨p, q, 401, rfl, dx, by decide, by decide, fun H8 x' d8 f8 x0 x1 => ?_⟩
              have t8 := tx.fix d8 f8
              have he8 := f8 _ _ ep eq hex
              obtain ⟨x, ex⟩ : ∃ x, x' - 200 = x := ⟨_, rfl⟩
              have bx : -200 ≤ x ∧ x ≤ 200 := by omega
              walk_at "rd"
              rw [ex]
              walk_at "rd"
              obtain ⟨r, er, ar⟩ := t8.row (a := ((i : Nat) : Int)) (by omega) i1
              refine rd_ixL t8.rows.at_ ar ?_
              walk_at "rd"
              obtain ⟨g1, g2⟩ := t8.get (b := c) (by omega) i1 c1 er
              refine rd_setL g1 c0 g2 ?_
              have t9 := t8.put (b := c) (by omega) i1 er bx
              have he9 := t8.ls (ys := ((rowOf M ((i : Nat) : Int)).map V.int).set c.toNat (.int x)) er he8 ers
              generalize upd H8 r (.lst (((rowOf M ((i : Nat) : Int)).map V.int).set c.toNat (.int x))) = H9 at t9 he9
              generalize set2 M ((i : Nat) : Int) c x = M9 at t9
              clear t8 he8 g1 g2
              walk_at "rd"
              obtain ⟨r2, er2, ar2⟩ := t9.row (a := c) c0 c1
              refine rd_ixL t9.rows.at_ ar2 ?_
              walk_at "rd"
              by_cases cf : fm < 4
              · refine iteT' (decide_eq_true cf) ?_
                walk_at "rd"
                obtain ⟨g1, g2⟩ := t9.get (b := ((i : Nat) : Int)) c0 c1 i1 er2
                refine rd_setL g1 (by omega) g2 ?_
                walk_at "rd"
                exact ⟨⟨_, _, _, rfl⟩, t9.ls er2 he9 ers, _, t9.put c0 c1 er2 bx⟩
              · refine iteF' (decide_eq_false cf) ?_
                walk_at "rd"
                refine ⟨p, q, 7, rfl, t9.d, by decide, by decide, fun H10 y d10 f10 y0 y1 => ?_⟩
                have t10 := t9.fix d10 f10
                have he10 := f10 _ _ ep eq he9
                walk_at "rd"
                obtain ⟨g1, g2⟩ := t10.get (b := ((i : Nat) : Int)) c0 c1 i1 er2
                refine rd_setL g1 (by omega) g2 ?_
                walk_at "rd"
                exact ⟨⟨_, _, _, rfl⟩, t10.ls er2 he10 ers, _, t10.put c0 c1 er2 (by omega)⟩
            · refine iteF' (decide_eq_false cz) ?_
              walk_at "rd"
              refine ⟨p, q, 7, rfl, dx, by decide, by decide, fun H8 x' d8 f8 x0 x1 => ?_⟩
              have t8 := tx.fix d8 f8
              have he8 := f8 _ _ ep eq hex
              obtain ⟨x, ex⟩ : ∃ x, x' - 3 = x := ⟨_, rfl⟩
              have bx : -200 ≤ x ∧ x ≤ 200 := by omega
              walk_at "rd"
              rw [ex]
              walk_at "rd"
              obtain ⟨r, er, ar⟩ := t8.row (a := ((i : Nat) : Int)) (by omega) i1
              refine rd_ixL t8.rows.at_ ar ?_
              walk_at "rd"
              obtain ⟨g1, g2⟩ := t8.get (b := c) (by omega) i1 c1 er
              refine rd_setL g1 c0 g2 ?_
              have t9 := t8.put (b := c) (by omega) i1 er bx
              have he9 := t8.ls (ys := ((rowOf M ((i : Nat) : Int)).map V.int).set c.toNat (.int x)) er he8 ers
              generalize upd H8 r (.lst (((rowOf M ((i : Nat) : Int)).map V.int).set c.toNat (.int x))) = H9 at t9 he9
              generalize set2 M ((i : Nat) : Int) c x = M9 at t9
              clear t8 he8 g1 g2
              walk_at "rd"
              obtain ⟨r2, er2, ar2⟩ := t9.row (a := c) c0 c1
              refine rd_ixL t9.rows.at_ ar2 ?_
              walk_at "rd"
              by_cases cf : fm < 4
              · refine iteT' (decide_eq_true cf) ?_
                walk_at "rd"
                obtain ⟨g1, g2⟩ := t9.get (b := ((i : Nat) : Int)) c0 c1 i1 er2
                refine rd_setL g1 (by omega) g2 ?_
                walk_at "rd"
                exact ⟨⟨_, _, _, rfl⟩, t9.ls er2 he9 ers, _, t9.put c0 c1 er2 bx⟩
              · refine iteF' (decide_eq_false cf) ?_
                walk_at "rd"
                refine ⟨p, q, 7, rfl, t9.d, by decide, by decide, fun H10 y d10 f10 y0 y1 => ?_⟩
                have t10 := t9.fix d10 f10
                have he10 := f10 _ _ ep eq he9
                walk_at "rd"
                obtain ⟨g1, g2⟩ := t10.get (b := ((i : Nat) : Int)) c0 c1 i1 er2
                refine rd_setL g1 (by omega) g2 ?_
                walk_at "rd"
                exact ⟨⟨_, _, _, rfl⟩, t10.ls er2 he10 ers, _, t10.put c0 c1 er2 (by omega)⟩
          · obtain ⟨⟨o6, o7, o8, rfl⟩, he7, M, t7⟩ := pv
            exact ⟨⟨_, _, _, _, rfl⟩, he7, M, t7⟩
        · obtain ⟨⟨o2, o6, o7, o8, rfl⟩, he6, M6, t6⟩ := pv
          clear T5 hmv
          walk_at "rd"
          refine ⟨D, rfl, ⟨_, SqL.of t6.rows.at_⟩, fun D2 hD2 => ?_⟩
          have lM6 := t6.s.l
          refine lc_list (xs := rs.map V.ref) (fun i H' => Same H6 H' ∧ ∃ ns : List Addr, H' D2 = some (.lst (ns.map V.ref)) ∧ Paired (fun r (row : List Int) => H' r = some (.lst (row.map V.int))) ns ((M6.map (addRow k mv)).take i) ∧ (∀ r ∈ ns, H6 r = none) ∧ ns.Nodup ∧ D2 ∉ ns)
            ⟨Same.fresh hD2, [], upd_same, .nil, by simp, List.nodup_nil, by simp⟩ (fun i H' _ pv => SqL.of (pv.1 _ _ t6.rows.at_)) (fun i x H7 hx pv => ?_) (fun H7 pv => ?_)
          · obtain ⟨S7, ns, hns, pn, fn, nd, out⟩ := pv
            rw [List.getElem?_map] at hx
            obtain ⟨r, hr, rfl⟩ := Option.map_eq_some_iff.mp hx
            obtain ⟨row, hrow, hrr⟩ := paired_get t6.rows.rows hr
            have lr := t6.s.r row (List.mem_of_getElem? hrow)
            have lq := paired_len pn
            rw [List.length_take, List.length_map] at lq
            walk_at "rd"
            refine ⟨rfl, ?_⟩
            walk_at "rd"
            refine ⟨by omega, by omega, fun l hl => ?_⟩
            rw [show (((k : Nat) : Int)).toNat = k by omega]
            refine lcv_rng ((addRow k mv row).map V.int) (by unfold addRow; simp) (by unfold addRow; simp; omega) hl (fun j z H8 hj hz S8 R hR => ?_) (fun H8 S8 hl8 => ?_)
            · have ez : z = .int (modeAt row ((j : Nat) : Int) + modeAt mv ((j : Nat) : Int)) := by
                unfold addRow at hz
                rw [List.map_map, List.getElem?_map, List.getElem?_range hj] at hz
                exact (Option.some.inj hz).symm
              subst ez
              rw [Int.zero_add]
              walk_at "rd"
              refine ⟨rfl, ?_⟩
              walk_at "rd"
              refine rd_ixL ((S7.trans S8) _ _ hrr) (modeAt_get (by omega) (by omega)) ?_
              walk_at "rd"
              refine rd_ixL ((S7.trans S8) _ _ he6) (modeAt_get (by omega) (by omega)) ?_
              walk_at "rd"
              exact hR H8 (Same.refl _)
            · have hns8 := S8 _ _ hns
              have nl : l ∉ ns := fun z => by
                obtain ⟨j, hj⟩ := List.getElem?_of_mem z
                obtain ⟨y, _, hy⟩ := paired_get pn hj
                rw [hl] at hy
                cases hy
              have lD2 : l ≠ D2 := fun z => by rw [z, hns] at hl; cases hl
              refine ⟨_, hns8, ?_, same_put (S7.trans S8) hD2, ns ++ [l], by rw [upd_same]; simp, ?_, fun r hr => ?_, ?_, ?_⟩
              · rw [List.length_map]
                exact Nat.lt_of_le_of_lt (by omega : ns.length ≤ 1000) (by decide)
              · rw [List.take_succ, List.getElem?_map, hrow]
                refine paired_append ?_ (.cons (by show upd H8 D2 _ l = _; rw [upd_ne lD2]; exact hl8) .nil)
                have gen : ∀ {us : List Addr} {ms : List (List Int)}, Paired (fun r (row : List Int) => H7 r = some (.lst (row.map V.int))) us ms → D2 ∉ us → Paired (fun r (row : List Int) => upd H8 D2 (.lst (ns.map V.ref ++ [V.ref l])) r = some (.lst (row.map V.int))) us ms := fun {us ms} z => by
                  induction z with
                  | nil => intro _; exact .nil
                  | cons a _ ih =>
                    intro o
                    refine .cons ?_ (ih fun z => o (List.mem_cons_of_mem _ z))
                    show upd H8 D2 _ _ = _
                    rw [upd_ne (fun z => o (by rw [← z]; exact List.mem_cons_self))]
                    exact S8 _ _ a
                exact gen pn out
              · rcases List.mem_append.mp hr with z | z
                · exact fn r z
                · rw [List.mem_singleton.mp z]; exact S7.free hl
              · exact List.nodup_append.mpr ⟨nd, by simp, fun a ha b hb => by
                  rw [List.mem_singleton.mp hb]
                  exact fun z => nl (by rw [← z]; exact ha)⟩
              · intro z
                rcases List.mem_append.mp z with z | z
                · exact out z
                · exact lD2 (List.mem_singleton.mp z).symm
          · obtain ⟨S7, ns, hns, pn, fn, nd, out⟩ := pv
            have lm : (M6.map (addRow k mv)).take (rs.map V.ref).length = M6.map (addRow k mv) := List.take_of_length_le (by rw [List.length_map, List.length_map, paired_len t6.rows.rows]; omega)
            rw [lm] at pn
            have t7 : Tb p q D2 ns H H7 k 205 (M6.map (addRow k mv)) := ⟨t6.d0, t6.d.same S7, t6.f.trans (Fix.same S7), ⟨hns, pn, nd, out⟩, (addRow_sx t6.s lmv bmv).mono (by decide), fun r hr => t6.f.free t6.d (fn r hr), t6.f.free t6.d hD2⟩
            have s204 := addRow_sx t6.s lmv bmv
            generalize M6.map (addRow k mv) = M7 at t7 s204
            clear lm pn hns fn nd out hD2 t6 he6 lM6
            walk_at "rd"
            by_cases c3 : fm = 3
            · refine iteT' (decide_eq_true c3) ?_
              walk_at "rd"
              refine ⟨p, q, ((k : Nat) : Int), rfl, t7.d, by omega, by omega, fun H8 a d8 f8 a0 a1 => ?_⟩
              have t8 := t7.fix d8 f8
              walk_at "rd"
              obtain ⟨r, er, ar⟩ := t8.row a0 a1
              refine rd_ixL t8.rows.at_ ar ?_
              walk_at "rd"
              refine rd_augS ?_
              walk_at "rd"
              refine ⟨p, q, ((k : Nat) : Int), rfl, d8, by omega, by omega, fun H9 b d9 f9 b0 b1 => ?_⟩
              have t9 := t8.fix d9 f9
              obtain ⟨g1, g2⟩ := t9.get a0 a1 b1 er
              rw [List.length_map] at g2
              walk_at "rd"
              refine rd_getL g1 b0 (modeAt_nth b0 g2) ?_
              walk_at "rd"
              refine ⟨p, q, 2, rfl, d9, by decide, by decide, fun H10 y d10 f10 y0 y1 => ?_⟩
              have t10 := t9.fix d10 f10
              walk_at "rd"
              refine rd_rI (.inr ⟨by omega, by omega⟩) ?_
              walk_at "rd"
              refine rd_ip ?_
              obtain ⟨g3, g4⟩ := t10.get a0 a1 b1 er
              refine rd_setL g3 b0 g4 ?_
              have bb := s204.b _ (rowOf_mem' a0 (by rw [s204.l]; exact a1)) _ (modeAt_mem (ms := rowOf M7 a) b0 g2)
              have tF := t10.put (b := b) (x := modeAt (rowOf M7 a) b + (1 - 2 * y)) a0 a1 er (by omega)
              generalize upd H10 r _ = HF at tF ⊢
              generalize set2 M7 a b _ = MF at tF
              walk_at "rd"
              refine ⟨D2, rfl, ⟨_, SqL.of tF.rows.at_⟩, fun D3 hD3 => ?_⟩
              refine lc_list (xs := ns.map V.ref) (fun i H' => Same HF H' ∧ ∃ us : List Addr, H' D3 = some (.lst (us.map V.ref)) ∧ Paired (RowT H') us (MF.take i))
                ⟨Same.fresh hD3, [], upd_same, .nil⟩ (fun i H' _ pv => SqL.of (pv.1 _ _ tF.rows.at_)) (fun i x H8 hx pv => ?_) (fun H8 pv => ?_)
              · obtain ⟨S8, us, hus, pu⟩ := pv
                rw [List.getElem?_map] at hx
                obtain ⟨r, hr, rfl⟩ := Option.map_eq_some_iff.mp hx
                obtain ⟨row, hrow, hrr⟩ := paired_get tF.rows.rows hr
                have lq := paired_len pu
                rw [List.length_take] at lq
                have lM := tF.s.l
                walk_at "rd"
                refine ⟨rfl, ?_⟩
                walk_at "rd"
                refine rd_tupL (S8 _ _ hrr) ?_
                intro t H9 z9 S9 ht
                have hus9 := S9 _ _ hus
                refine ⟨_, hus9, ?_, same_put (S8.trans S9) hD3, us ++ [t], by rw [upd_same]; simp, ?_⟩
                · rw [List.length_map]
                  exact Nat.lt_of_le_of_lt (by omega : us.length ≤ 1000) (by decide)
                · rw [List.take_succ, hrow]
                  have K9 : Kept H9 (upd H9 D3 (.lst (us.map V.ref ++ [V.ref t]))) := Kept.upd hus9
                  exact paired_append (paired_mono pu fun _ _ z => tup_kept (rowT_same z S9) K9) (.cons (tup_kept (Tup.of ht) K9) .nil)
              · obtain ⟨S8, us, hus, pu⟩ := pv
                rw [List.length_map, paired_len tF.rows.rows, List.take_length] at pu
                walk_at "rd"
                refine rd_tupL hus ?_
                intro t1 H9 z9 S9 ht1
                have S79 := S8.trans S9
                exact hQ H9 t1 MF (tF.d.same S79) (tF.f.trans (Fix.same S79)) ⟨us, Tup.of ht1, paired_mono pu fun _ _ z => rowT_same z S9⟩ (tF.s.tk k1 k4) (tF.s.okT (by decide))
            · refine iteF' (decide_eq_false c3) ?_
              have tF := t7
              generalize H7 = HF at tF
              generalize M7 = MF at tF
              walk_at "rd"
              refine ⟨D2, rfl, ⟨_, SqL.of tF.rows.at_⟩, fun D3 hD3 => ?_⟩
              refine lc_list (xs := ns.map V.ref) (fun i H' => Same HF H' ∧ ∃ us : List Addr, H' D3 = some (.lst (us.map V.ref)) ∧ Paired (RowT H') us (MF.take i))
                ⟨Same.fresh hD3, [], upd_same, .nil⟩ (fun i H' _ pv => SqL.of (pv.1 _ _ tF.rows.at_)) (fun i x H8 hx pv => ?_) (fun H8 pv => ?_)
              · obtain ⟨S8, us, hus, pu⟩ := pv
                rw [List.getElem?_map] at hx
                obtain ⟨r, hr, rfl⟩ := Option.map_eq_some_iff.mp hx
                obtain ⟨row, hrow, hrr⟩ := paired_get tF.rows.rows hr
                have lq := paired_len pu
                rw [List.length_take] at lq
                have lM := tF.s.l
                walk_at "rd"
                refine ⟨rfl, ?_⟩
                walk_at "rd"
                refine rd_tupL (S8 _ _ hrr) ?_
                intro t H9 z9 S9 ht
                have hus9 := S9 _ _ hus
                refine ⟨_, hus9, ?_, same_put (S8.trans S9) hD3, us ++ [t], by rw [upd_same]; simp, ?_⟩
                · rw [List.length_map]
                  exact Nat.lt_of_le_of_lt (by omega : us.length ≤ 1000) (by decide)
                · rw [List.take_succ, hrow]
                  have K9 : Kept H9 (upd H9 D3 (.lst (us.map V.ref ++ [V.ref t]))) := Kept.upd hus9
                  exact paired_append (paired_mono pu fun _ _ z => tup_kept (rowT_same z S9) K9) (.cons (tup_kept (Tup.of ht) K9) .nil)
              · obtain ⟨S8, us, hus, pu⟩ := pv
                rw [List.length_map, paired_len tF.rows.rows, List.take_length] at pu
                walk_at "rd"
                refine rd_tupL hus ?_
                intro t1 H9 z9 S9 ht1
                have S79 := S8.trans S9
                exact hQ H9 t1 MF (tF.d.same S79) (tF.f.trans (Fix.same S79)) ⟨us, Tup.of ht1, paired_mono pu fun _ _ z => rowT_same z S9⟩ (tF.s.tk k1 k4) (tF.s.okT (by decide))
end
end K69

namespace K69
open PySem PySem.Spec PyProof.Rows L2 KX
/-! ### what changes gain -/
def setM (ms : List Int) (i : Int) (to : Int) : List Int := ms.set i.toNat to
theorem setM_len (ms : List Int) (i to : Int) : (setM ms i to).length = ms.length := List.length_set
theorem modeAt_set {ms : List Int} {i to j : Int} (h0 : 0 ≤ i) (h1 : i < ms.length) (j0 : 0 ≤ j) : modeAt (setM ms i to) j = if j = i then to else modeAt ms j := by
  unfold modeAt setM
  rw [List.getD_eq_getElem?_getD, List.getElem?_set]
  by_cases h : j = i
  · rw [if_pos h, if_pos (by rw [h]), if_pos (by omega)]; rfl
  · rw [if_neg h, if_neg (by omega), ← List.getD_eq_getElem?_getD]
def nears (ms : List Int) (L : List (Int × Int)) (s : Int) : List Int := ((L.filterMap fun e => if e.1 = s then some e.2 else none).map (modeAt ms)) ++ ((L.filterMap fun e => if e.2 = s then some e.1 else none).map (modeAt ms))
def st1 (W : List (List Int)) (L : List (Int × Int)) (ms : List Int) (s to : Int) : Int := ((nears ms L s).map fun o => at2 W to o - at2 W (modeAt ms s) o).sum
def gstep (W : List (List Int)) (L : List (Int × Int)) (x : Int × List Int) (e : Int × Int) : Int × List Int := (x.1 + st1 W L x.2 e.1 e.2, setM x.2 e.1 e.2)
def gainsF (W : List (List Int)) (L : List (Int × Int)) (ms : List Int) (S : List (Int × Int)) : Int × List Int := S.foldl (gstep W L) (0, ms)
theorem around (W : List (List Int)) (a c b e : Int) : (gainsF W [(0, 1)] [a, b] [(0, c), (1, e), (0, a), (1, b)]).1 = rsum W a c b e := by
  unfold rsum
  simp [gainsF, gstep, st1, nears, modeAt, setM]
  try omega
/-- the weight of the links -/
def phi (M : List (List Int)) (L : List (Int × Int)) (ms : List Int) : Int := (L.map fun e => at2 M (modeAt ms e.1) (modeAt ms e.2)).sum
theorem nears_sum (ms : List Int) (s : Int) (d : Int → Int) : ∀ L : List (Int × Int), ((nears ms L s).map d).sum = (L.map fun e => (if e.1 = s then d (modeAt ms e.2) else 0) + (if e.2 = s then d (modeAt ms e.1) else 0)).sum
  | [] => rfl
  | e :: L => by
    have ih := nears_sum ms s d L
    unfold nears at ih ⊢
    rw [List.map_append, List.sum_append] at ih ⊢
    rw [List.map_cons, List.sum_cons, ← ih, List.filterMap_cons, List.filterMap_cons]
    by_cases h1 : e.1 = s <;> by_cases h2 : e.2 = s <;> simp [h1, h2] <;> omega
/-- rows that the gains follow, in both orders alike -/
structure Dec (k : Nat) (W M : List (List Int)) : Prop where
  sy : ∀ a b : Int, Lt k a → Lt k b → at2 M a b = at2 M b a
  fo : ∀ c b : Int, Lt k c → Lt k b → at2 W c b - at2 W 0 b = at2 M c b - at2 M 0 b
theorem sum_map_sub {α : Type} (f g h : α → Int) : ∀ l : List α, (∀ x ∈ l, h x = f x - g x) → (l.map h).sum = (l.map f).sum - (l.map g).sum
  | [], _ => rfl
  | x :: l, H => by
    have ih := sum_map_sub f g h l fun y hy => H y (List.mem_cons_of_mem _ hy)
    have hx := H x List.mem_cons_self
    simp only [List.map_cons, List.sum_cons]
    omega
/-- links in range, the lesser site first -/
def LkIn (n : Nat) (L : List (Int × Int)) : Prop := ∀ e ∈ L, 0 ≤ e.1 ∧ e.1 < e.2 ∧ e.2 < n
def MsIn (k : Nat) (ms : List Int) : Prop := ∀ m ∈ ms, Lt k m
theorem MsIn.at {k : Nat} {ms : List Int} (h : MsIn k ms) {s : Int} (h0 : 0 ≤ s) (h1 : s < ms.length) : Lt k (modeAt ms s) := h _ (modeAt_mem h0 h1)
theorem MsIn.set {k : Nat} {ms : List Int} (h : MsIn k ms) {s to : Int} (t : Lt k to) : MsIn k (setM ms s to) := fun m hm => by
  rcases List.mem_or_eq_of_mem_set hm with z | z
  · exact h m z
  · rw [z]; exact t
theorem st1_phi {k : Nat} {W M : List (List Int)} {L : List (Int × Int)} {ms : List Int} {s to : Int} (d : Dec k W M) (hL : LkIn ms.length L) (hm : MsIn k ms) (s0 : 0 ≤ s) (s1 : s < ms.length) (ht : Lt k to) :
    st1 W L ms s to = phi M L (setM ms s to) - phi M L ms := by
  unfold st1
  rw [nears_sum]
  unfold phi
  refine sum_map_sub _ _ _ L fun e he => ?_
  obtain ⟨r0, r1, r2⟩ := hL e he
  have ms1 := hm.at s0 s1
  have m1 := hm.at r0 (by omega)
  have m2 := hm.at (show 0 ≤ e.2 by omega) r2
  rw [modeAt_set s0 s1 r0, modeAt_set s0 s1 (by omega)]
  have fa := fun b hb => d.fo to b ht hb
  have fb := fun b hb => d.fo (modeAt ms s) b ms1 hb
  by_cases h1 : e.1 = s
  · rw [if_pos h1, if_pos h1, if_neg (by omega), if_neg (by omega), h1]
    have := fa _ m2
    have := fb _ m2
    omega
  · rw [if_neg h1, if_neg h1]
    by_cases h2 : e.2 = s
    · rw [if_pos h2, if_pos h2, h2]
      have := fa _ m1
      have := fb _ m1
      have := d.sy _ _ m1 ht
      have := d.sy _ _ m1 ms1
      omega
    · rw [if_neg h2, if_neg h2]
      omega
/-- changes in range -/
def StIn (n k : Nat) (S : List (Int × Int)) : Prop := ∀ e ∈ S, (0 ≤ e.1 ∧ e.1 < n) ∧ Lt k e.2
theorem fold_in {k n : Nat} {W : List (List Int)} {L : List (Int × Int)} : ∀ {S : List (Int × Int)} {x : Int × List Int}, StIn n k S → x.2.length = n → MsIn k x.2 → (S.foldl (gstep W L) x).2.length = n ∧ MsIn k (S.foldl (gstep W L) x).2
  | [], x, _, hl, hm => ⟨hl, hm⟩
  | e :: S, x, hs, hl, hm => fold_in (x := gstep W L x e) (fun y hy => hs y (List.mem_cons_of_mem _ hy)) (by show (setM _ _ _).length = n; rw [setM_len]; exact hl) (MsIn.set hm (hs e List.mem_cons_self).2)
theorem fold_phi {k n : Nat} {W M : List (List Int)} {L : List (Int × Int)} (d : Dec k W M) (hL : LkIn n L) : ∀ {S : List (Int × Int)} {x : Int × List Int}, StIn n k S → x.2.length = n → MsIn k x.2 →
    (S.foldl (gstep W L) x).1 - x.1 = phi M L (S.foldl (gstep W L) x).2 - phi M L x.2
  | [], x, _, _, _ => by show x.1 - x.1 = phi M L x.2 - phi M L x.2; omega
  | e :: S, x, hs, hl, hm => by
    obtain ⟨⟨s0, s1⟩, ht⟩ := hs e List.mem_cons_self
    have ih := fold_phi d hL (S := S) (x := gstep W L x e) (fun y hy => hs y (List.mem_cons_of_mem _ hy)) (by show (setM _ _ _).length = n; rw [setM_len]; exact hl) (MsIn.set hm ht)
    have h1 := st1_phi (L := L) (s := e.1) (to := e.2) d (by rw [hl]; exact hL) hm s0 (by rw [hl]; exact s1) ht
    have e1 : (gstep W L x e).1 = x.1 + st1 W L x.2 e.1 e.2 := rfl
    have e2 : (gstep W L x e).2 = setM x.2 e.1 e.2 := rfl
    rw [e1, e2] at ih
    show (S.foldl (gstep W L) (gstep W L x e)).1 - x.1 = phi M L (S.foldl (gstep W L) (gstep W L x e)).2 - phi M L x.2
    omega
theorem gains_zero {k : Nat} {W M : List (List Int)} {L : List (Int × Int)} {ms : List Int} {S : List (Int × Int)} (d : Dec k W M) (hL : LkIn ms.length L) (hm : MsIn k ms) (hs : StIn ms.length k S) (back : (gainsF W L ms S).2 = ms) : (gainsF W L ms S).1 = 0 := by
  have h := fold_phi (x := (0, ms)) d hL hs rfl hm
  unfold gainsF at back ⊢
  rw [back] at h
  have h : (S.foldl (gstep W L) (0, ms)).1 - 0 = phi M L ms - phi M L ms := h
  omega
/-! ### the first four modes -/
def lt4 (p q : Four) : Prop := p.1 < q.1 ∨ (p.1 = q.1 ∧ (p.2.1 < q.2.1 ∨ (p.2.1 = q.2.1 ∧ (p.2.2.1 < q.2.2.1 ∨ (p.2.2.1 = q.2.2.1 ∧ p.2.2.2 < q.2.2.2)))))
theorem flat_pair {α : Type} {R : α → α → Prop} (f : Nat → List α) (h1 : ∀ i, (f i).Pairwise R) (h2 : ∀ i j, i < j → ∀ x ∈ f i, ∀ y ∈ f j, R x y) : ∀ n, ((List.range n).flatMap f).Pairwise R
  | 0 => by simp
  | n + 1 => by
    rw [flat_take]
    refine List.pairwise_append.mpr ⟨flat_pair f h1 h2 n, h1 n, fun x hx y hy => ?_⟩
    obtain ⟨i, hi, hx⟩ := List.mem_flatMap.mp hx
    exact h2 i n (List.mem_range.mp hi) x hx y hy
theorem quads_asc (k : Nat) : (quads k).Pairwise lt4 := by
  refine flat_pair _ (fun a => ?_) (fun i j hij x hx y hy => ?_) k
  · refine flat_pair _ (fun c => ?_) (fun i j hij x hx y hy => ?_) k
    · refine flat_pair _ (fun b => ?_) (fun i j hij x hx y hy => ?_) k
      · unfold q1
        refine List.pairwise_map.mpr ?_
        have : (List.range k).Pairwise (· < ·) := List.pairwise_lt_range (n := k)
        exact this.imp fun {x y} h => .inr ⟨rfl, .inr ⟨rfl, .inr ⟨rfl, by show ((x : Nat) : Int) < ((y : Nat) : Int); omega⟩⟩⟩
      · obtain ⟨x1, x2, x3, _⟩ := mem_q1.mp hx
        obtain ⟨y1, y2, y3, _⟩ := mem_q1.mp hy
        exact .inr ⟨by rw [x1, y1], .inr ⟨by rw [x2, y2], .inl (by rw [x3, y3]; omega)⟩⟩
    · obtain ⟨x1, x2, _⟩ := mem_q2.mp hx
      obtain ⟨y1, y2, _⟩ := mem_q2.mp hy
      exact .inr ⟨by rw [x1, y1], .inl (by rw [x2, y2]; omega)⟩
  · obtain ⟨x1, _⟩ := mem_q3.mp hx
    obtain ⟨y1, _⟩ := mem_q3.mp hy
    exact .inl (by rw [x1, y1]; omega)
theorem lt4_irr {q : Four} (h : lt4 q q) : False := by
  unfold lt4 at h
  omega
theorem lt4_asym {p q : Four} (h : lt4 p q) (g : lt4 q p) : False := by
  unfold lt4 at h g
  omega
theorem first_of {k : Nat} {W : List (List Int)} {q : Four} (hq : q ∈ quads k) (hr : rs4 W q ≠ 0) (h : ∀ p ∈ quads k, lt4 p q → rs4 W p = 0) : firstQ k W = some q := by
  obtain ⟨i, hi⟩ := List.getElem?_of_mem hq
  refine find_at hi (decide_eq_true hr) fun j p hj hp => decide_eq_false fun z => z (h p (List.mem_of_getElem? hp) ?_)
  have pw := List.pairwise_iff_getElem.mp (quads_asc k)
  obtain ⟨li, ei⟩ := List.getElem?_eq_some_iff.mp hi
  obtain ⟨lj, ej⟩ := List.getElem?_eq_some_iff.mp hp
  have := pw j i lj li hj
  rwa [ei, ej] at this
theorem none_of {k : Nat} {W : List (List Int)} (h : ∀ p ∈ quads k, rs4 W p = 0) : firstQ k W = none := List.find?_eq_none.mpr fun q hq => by simp [h q hq]
theorem none_all {k : Nat} {W : List (List Int)} (h : firstQ k W = none) : ∀ p ∈ quads k, rs4 W p = 0 := fun p hp => by
  have z := List.find?_eq_none.mp h p hp
  by_cases c : rs4 W p = 0
  · exact c
  · exact absurd (decide_eq_true c) z
theorem first_mem {k : Nat} {W : List (List Int)} {q : Four} (h : firstQ k W = some q) : q ∈ quads k ∧ rs4 W q ≠ 0 := by
  have h1 := List.mem_of_find?_eq_some h
  have h2 := List.find?_some h
  exact ⟨h1, of_decide_eq_true h2⟩
theorem rs_ac (W : List (List Int)) (a b e : Int) : rsum W a a b e = 0 := by unfold rsum; omega
theorem rs_be (W : List (List Int)) (a c b : Int) : rsum W a c b b = 0 := by unfold rsum; omega
theorem two_none {k : Nat} {W : List (List Int)} (h : k < 3) : firstQ k W = none := by
  refine none_of fun p hp => ?_
  obtain ⟨⟨a0, a1⟩, ⟨c0, c1⟩, ⟨b0, b1⟩, ⟨e0, e1⟩⟩ := mem_quads.mp hp
  obtain ⟨a, c, b, e⟩ := p
  show rsum W a c b e = 0
  by_cases ac : c = a
  · rw [ac]; exact rs_ac W a b e
  · by_cases be : e = b
    · rw [be]; exact rs_be W a c b
    · have a0 : 0 ≤ a := a0
      have a1 : a < (k : Nat) := a1
      have c0 : 0 ≤ c := c0
      have c1 : c < (k : Nat) := c1
      have b0 : 0 ≤ b := b0
      have b1 : b < (k : Nat) := b1
      have e0 : 0 ≤ e := e0
      have e1 : e < (k : Nat) := e1
      have ha : a = 0 ∧ c = 1 ∨ a = 1 ∧ c = 0 := by omega
      have hb : b = 0 ∧ e = 1 ∨ b = 1 ∧ e = 0 := by omega
      unfold rsum
      rcases ha with ⟨rfl, rfl⟩ | ⟨rfl, rfl⟩ <;> rcases hb with ⟨rfl, rfl⟩ | ⟨rfl, rfl⟩ <;> omega
theorem moved_at {k : Nat} {W : List (List Int)} (g : Tk k W) {a b : Int} (ha : Lt k a) (hb : Lt k b) : at2 (movedT k W) a b = at2 W a b + (at2 W b 0 - at2 W 0 b) := by
  obtain ⟨a0, a1⟩ := ha
  obtain ⟨b0, b1⟩ := hb
  have lW := g.l
  obtain ⟨n, rfl⟩ := Int.eq_ofNat_of_zero_le a0
  obtain ⟨m, rfl⟩ := Int.eq_ofNat_of_zero_le b0
  have e1 : rowOf (movedT k W) ((n : Nat) : Int) = (List.range k).map fun b => modeAt (rowOf W ((n : Nat) : Int)) ((b : Nat) : Int) + (at2 W ((b : Nat) : Int) 0 - at2 W 0 ((b : Nat) : Int)) := by
    unfold movedT rowOf
    rw [show ((n : Nat) : Int).toNat = n by omega, List.getD_eq_getElem?_getD, List.getElem?_map, List.getElem?_eq_getElem (by omega), List.getD_eq_getElem?_getD, List.getElem?_eq_getElem (by omega)]; rfl
  show modeAt (rowOf (movedT k W) ((n : Nat) : Int)) ((m : Nat) : Int) = _
  rw [e1]
  show List.getD _ ((m : Nat) : Int).toNat 0 = _
  rw [show ((m : Nat) : Int).toNat = m by omega, List.getD_eq_getElem?_getD, List.getElem?_map, List.getElem?_range (by omega)]; rfl
theorem moved_tk {k : Nat} {W : List (List Int)} (g : Tk k W) : Tk k (movedT k W) := by
  refine ⟨by unfold movedT; rw [List.length_map]; exact g.l, fun r hr => ?_, g.k1, g.k4⟩
  unfold movedT at hr
  obtain ⟨row, _, rfl⟩ := List.mem_map.mp hr
  rw [List.length_map, List.length_range]
theorem dec_none {k : Nat} {W : List (List Int)} (g : Tk k W) (h : firstQ k W = none) : Dec k W (movedT k W) := by
  have k1 := g.k1
  have z0 : Lt k 0 := ⟨by omega, by omega⟩
  refine ⟨fun a b ha hb => ?_, fun c b hc hb => ?_⟩
  · rw [moved_at g ha hb, moved_at g hb ha]
    have z := none_all h (0, a, 0, b) (mem_quads.mpr ⟨z0, ha, z0, hb⟩)
    have z : rsum W 0 a 0 b = 0 := z
    unfold rsum at z
    omega
  · rw [moved_at g hc hb, moved_at g z0 hb]
    omega
end K69

namespace K69
open PySem PySem.Spec PyProof.Rows L2 KX
local macro_rules | `(tactic| walk_at "rd1") => `(tactic| first
  | with_reducible refine rd_seq ?_
  | with_reducible refine rd_for ?_
  | with_reducible refine rd_lc ?_
  | with_reducible refine rd_asg ?_
  | ((with_reducible refine' rd_var ?rdv ?_); (case rdv => exact rfl))
  | with_reducible refine rd_c ?_
  | with_reducible refine rd_op ?_
  | with_reducible refine rd_un ?_
  | with_reducible refine rd_cons ?_
  | with_reducible refine rd_nil ?_
  | with_reducible refine rd_call ?_
  | with_reducible refine rd_cb ?_
  | with_reducible refine rd_tB ?_
  | with_reducible refine rd_test ?_
  | with_reducible refine rd_bl ?_
  | with_reducible refine rd_rI0 ?_
  | with_reducible refine rd_eqI ?_
  | with_reducible refine rd_neI ?_
  | with_reducible refine rd_rU ?_
  | with_reducible refine rd_name ?_
  | with_reducible refine rd_ifs ?_
  | with_reducible refine rd_and ?_
  | with_reducible refine rd_or ?_
  | with_reducible refine rd_not ?_
  | with_reducible refine rd_yes ?_
  | with_reducible refine rd_andV ?_
  | with_reducible refine rd_orV ?_
  | with_reducible refine rd_notV ?_
  | with_reducible refine rd_if ?_
  | with_reducible refine rd_isN ?_
  | with_reducible refine rd_iT ?_
  | with_reducible refine rd_iF ?_
  | with_reducible refine rd_ret ?_
  | with_reducible refine rd_retN ?_
  | with_reducible refine rd_drop ?_
  | with_reducible refine rd_next ?_
  | with_reducible refine rd_cont ?_
  | with_reducible refine rd_brk ?_
  | with_reducible refine rd_nx ?_
  | with_reducible refine rd_rt ?_
  | with_reducible refine rd_ct ?_
  | with_reducible refine rd_bk ?_
  | with_reducible refine rd_par ?_
  | with_reducible refine rd_par3 ?_
  | with_reducible refine rd_par2 ?_
  | with_reducible refine rd_par33 ?_
  | with_reducible refine rd_gcons ?_
  | with_reducible refine rd_gnil ?_
  | with_reducible refine rd_sub ?_
  | with_reducible refine rd_tup ?_
  | with_reducible refine rd_lst ?_
  | ((with_reducible refine rd_tupT ?hl ?_); (case hl => exact Nat.le_of_ble_eq_true rfl))
  | ((with_reducible refine rd_lstT ?hl ?_); (case hl => exact Nat.le_of_ble_eq_true rfl))
  | with_reducible refine rd_bm ?_
  | with_reducible refine rd_bm0 ?_
  | with_reducible refine rd_sl ?_
  | with_reducible refine rd_noP ?_
  | with_reducible refine rd_part ?_
  | with_reducible refine rd_int ?_
  | with_reducible refine rd_int1 ?_
  | with_reducible refine rd_fld ?_
  | with_reducible refine rd_then ?_
  | with_reducible refine rd_raise ?_
  | with_reducible refine rd_one ?_
  | with_reducible refine rd_sfld ?_
  | with_reducible refine rd_ilist ?_
  | with_reducible refine rd_itup ?_
  | with_reducible refine rd_rng1 ?_
  | with_reducible refine rd_enum ?_
  | with_reducible refine rd_enumT ?_)
local macro_rules | `(tactic| walk_at "rd") => `(tactic| repeat (walk_at "rd1"))
theorem fm_map {α : Type} (f : α → Option Int) (g : Int → Int) (l : List α) : l.filterMap (fun e => (f e).map fun b => V.int (g b)) = ((l.filterMap f).map g).map V.int := by
  induction l with
  | nil => rfl
  | cons e l ih =>
    rw [List.filterMap_cons, List.filterMap_cons]
    cases f e with
    | none => exact ih
    | some b => simp [ih]
theorem nears_len (ms : List Int) (L : List (Int × Int)) (s : Int) : (nears ms L s).length ≤ L.length + L.length := by
  unfold nears
  rw [List.length_append, List.length_map, List.length_map]
  have h1 := List.length_filterMap_le (fun e : Int × Int => if e.1 = s then some e.2 else none) L
  have h2 := List.length_filterMap_le (fun e : Int × Int => if e.2 = s then some e.1 else none) L
  omega
theorem nears_in {k : Nat} {ms : List Int} {L : List (Int × Int)} {s : Int} (hL : LkIn ms.length L) (hm : MsIn k ms) : ∀ x ∈ nears ms L s, Lt k x := fun x hx => by
  unfold nears at hx
  rcases List.mem_append.mp hx with z | z <;> obtain ⟨y, hy, rfl⟩ := List.mem_map.mp z <;> obtain ⟨e, he, hy⟩ := List.mem_filterMap.mp hy <;> obtain ⟨r0, r1, r2⟩ := hL e he
  · by_cases c : e.1 = s
    · rw [if_pos c] at hy; cases hy; exact hm.at (by omega) r2
    · rw [if_neg c] at hy; cases hy
  · by_cases c : e.2 = s
    · rw [if_pos c] at hy; cases hy; exact hm.at r0 (by omega)
    · rw [if_neg c] at hy; cases hy
/-- lists of links or of changes as they stand -/
def PrL (H : Hp) (l : Addr) (L : List (Int × Int)) : Prop := ∃ ps : List Addr, H l = some (.lst (ps.map V.ref)) ∧ Paired (PairAt H) ps L
theorem PrL.same {H H' : Hp} {l : Addr} {L : List (Int × Int)} (h : PrL H l L) (s : Same H H') : PrL H' l L := by
  obtain ⟨ps, a, b⟩ := h
  exact ⟨ps, s _ _ a, pairs_same b s⟩
structure GIn (k : Nat) (ms : List Int) (L S : List (Int × Int)) : Prop where
  m : MsIn k ms
  l : LkIn ms.length L
  s : StIn ms.length k S
  lm : ms.length < 1000
  lL : L.length < 10000
  lS : S.length < 1000
def spGains (K : PySem.W.Frag) : L2.Sp := fun vs H Q _ => ∃ (t a l s : Addr) (k : Nat) (W : List (List Int)) (ms : List Int) (L S : List (Int × Int)), vs = [.ref t, .ref a, .ref l, .ref s] ∧ TabAt H t W ∧ Tk k W ∧ H a = some (.lst (ms.map V.int)) ∧ PrL H l L ∧ PrL H s S ∧ GIn k ms L S ∧
  ∀ H' r b, Same H H' → H' r = some (.tup [.int (gainsF W L ms S).1, .ref b]) → H' b = some (.lst ((gainsF W L ms S).2.map V.int)) → Q (.ref r) H'
def spAround (K : PySem.W.Frag) : L2.Sp := fun vs H Q _ => ∃ (t f : Addr) (k : Nat) (W : List (List Int)) (e : Four), vs = [.ref t, .ref f] ∧ TabAt H t W ∧ Tk k W ∧ Tup H f [.int e.1, .int e.2.1, .int e.2.2.1, .int e.2.2.2] ∧ Lt k e.1 ∧ Lt k e.2.1 ∧ Lt k e.2.2.1 ∧ Lt k e.2.2.2 ∧
  ∀ H', Same H H' → Q (.int (rs4 W e)) H'
section
variable {P : Program} {w : World} {K : PySem.W.Frag} {mg : Str → Option Value} {base : Heap} (T : TX K mg)
theorem G__law_gains : FnOk P w K mg base CX0 1 T.f__law_gains T.d__law_gains ["table", "modes", "links", "steps"] (spGains K) := by
  refine T.F__law_gains.ok sc__law_gains (fun vs H Q E h => ?_) fun cdv A outer s H vs Q E hr h => ⟨_, (pss_cons (ps_set (i := 4) sc__law_gains.nd rfl (.inl rfl) pe_int) (pss_cons (ps_for PassesOwn.never rfl (pi_listK (K := K) (pv 3)) (pg_tupK (K := K) (n := 2) (by rfl) (pgs_cons (pg_name (i := 5) sc__law_gains.nd rfl (.inr rfl)) (pgs_cons (pg_name (i := 6) sc__law_gains.nd rfl (.inr rfl)) pgs_nil))) (pss_cons (ps_set (i := 7) sc__law_gains.nd rfl (.inl rfl) (pe_op op_cat (by exact (pe_lc (own := [("one", 8), ("other", 9)]) (by rfl) sc__law_gains.nd (pi_listK (K := K) (pv 2)) (blkOk_by (own := [("one", 8), ("other", 9)]) (N := N__law_gains) (sc := defScope s__law_gains) (by decide +kernel)) (fun _ _ _ _ _ => (pg_tupK (K := K) (n := 2) (by rfl) (pgs_cons (pg_name (i := 8) sc__law_gains.nd rfl (.inl rfl)) (pgs_cons (pg_name (i := 9) sc__law_gains.nd rfl (.inl rfl)) pgs_nil)))) (fun _ _ _ _ _ => pts_one (pt_cmpR op_eq (pv 8) (pv 5) (nomark _))) (fun _ _ _ _ _ => (pe_ix (ix_listK (K := K)) (pv 1) (pv 9) (fun _ _ => rfl))) )) (by exact (pe_lc (own := [("one", 8), ("other", 9)]) (by rfl) sc__law_gains.nd (pi_listK (K := K) (pv 2)) (blkOk_by (own := [("one", 8), ("other", 9)]) (N := N__law_gains) (sc := defScope s__law_gains) (by decide +kernel)) (fun _ _ _ _ _ => (pg_tupK (K := K) (n := 2) (by rfl) (pgs_cons (pg_name (i := 8) sc__law_gains.nd rfl (.inl rfl)) (pgs_cons (pg_name (i := 9) sc__law_gains.nd rfl (.inl rfl)) pgs_nil)))) (fun _ _ _ _ _ => pts_one (pt_cmpR op_eq (pv 9) (pv 5) (nomark _))) (fun _ _ _ _ _ => (pe_ix (ix_listK (K := K)) (pv 1) (pv 8) (fun _ _ => rfl))) )))) (pss_cons (ps_set (i := 4) sc__law_gains.nd rfl (.inl rfl) (pe_op op_add (pv 4) (pe_callB (cr_sumK (K := K) rfl) (by rfl) T.n_sum (by decide +kernel) (by exact (pa_cons (by exact (pe_lc (own := [("one", 8)]) (by rfl) sc__law_gains.nd (pi_listK (K := K) (pv 7)) (blkOk_by (own := [("one", 8)]) (N := N__law_gains) (sc := defScope s__law_gains) (by decide +kernel)) (fun _ _ _ _ _ => (pg_name (i := 8) sc__law_gains.nd rfl (.inl rfl))) (fun _ _ _ _ _ => pts_nil) (fun _ _ _ _ _ => (pe_op op_sub (pe_ix (ix_tupK (K := K)) (pe_ix (ix_tupK (K := K)) (pv 0) (pv 6) (fun _ _ => rfl)) (pv 8) (fun _ _ => rfl)) (pe_ix (ix_tupK (K := K)) (pe_ix (ix_tupK (K := K)) (pv 0) (pe_ix (ix_listK (K := K)) (pv 1) (pv 5) (fun _ _ => rfl)) (fun _ _ => rfl)) (pv 8) (fun _ _ => rfl)))) )) pa_nil))))) (pss_one (ps_set (i := 1) sc__law_gains.nd rfl (.inr rfl) (pe_op op_cat (pe_op op_cat (pe_slice (sl_listK (K := K)) (pv 1) po_none (po_some (pv 5))) (pe_lst (pa_cons (pv 6) pa_nil))) (pe_slice (sl_listK (K := K)) (pv 1) (po_some (pe_op op_add (pv 5) pe_int)) po_none))))))) (pss_one (ps_ret (pe_tup (pa_cons (pv 4) (pa_cons (pv 1) pa_nil))))))), ?_⟩
  · obtain ⟨t, a, l, s, k, W, ms, L, S, rfl, _⟩ := h
    rfl
  · obtain ⟨t, a, l, s, k, W, ms, L, S, rfl, hw, g, ha, hl, hs, gi, hQ⟩ := h
    obtain ⟨ps, hl, pL⟩ := hl
    obtain ⟨ss, hs, pS⟩ := hs
    have lps := paired_len pL
    have lss := paired_len pS
    have lm := gi.lm
    have lL := gi.lL
    have lS := gi.lS
    have k4 := g.k4
    walk_at "rd"
    refine ⟨s, rfl, ⟨_, SqL.of hs⟩, ?_⟩
    refine for_list (xs := ss.map V.ref) (fun i σ H' => Same H H' ∧ ∃ b, H' b = some (.lst (((S.take i).foldl (gstep W L) (0, ms)).2.map V.int)) ∧ ∃ o5 o6 o7, σ = [some (.ref t), some (.ref b), some (.ref l), some (.ref s), some (.int ((S.take i).foldl (gstep W L) (0, ms)).1), o5, o6, o7, none, none])
      ⟨Same.refl _, a, ha, _, _, _, rfl⟩ (fun i σ H' _ pv => SqL.of (pv.1 _ _ hs)) (fun i x σ H1 hx pv => ?_) (fun σ H1 pv => ?_)
    · obtain ⟨S1, b, hb, o5, o6, o7, rfl⟩ := pv
      rw [List.getElem?_map] at hx
      obtain ⟨sa, hsa, rfl⟩ := Option.map_eq_some_iff.mp hx
      obtain ⟨e, he, hse⟩ := paired_get pS hsa
      obtain ⟨lx, mx⟩ := fold_in (W := W) (L := L) (S := S.take i) (x := (0, ms)) (fun y hy => gi.s y (List.mem_of_mem_take hy)) rfl gi.m
      obtain ⟨⟨s0, s1⟩, ht⟩ := gi.s e (List.mem_of_getElem? he)
      have e1 : (S.take (i + 1)).foldl (gstep W L) (0, ms) = gstep W L ((S.take i).foldl (gstep W L) (0, ms)) e := fold_snoc _ _ _ _ _ he
      rw [e1]
      generalize (S.take i).foldl (gstep W L) (0, ms) = x at hb lx mx
      obtain ⟨fo, ns⟩ := x
      have hb : H1 b = some (.lst (ns.map V.int)) := hb
      have lx : ns.length = ms.length := lx
      have mx : MsIn k ns := mx
      have lkn : LkIn ns.length L := by rw [lx]; exact gi.l
      refine rd_gtup (Tup.of (S1 _ _ hse)) rfl ?_
      have hl1 := S1 _ _ hl
      have pL1 := pairs_same pL S1
      walk_at "rd"
      refine ⟨l, rfl, ⟨_, SqL.of hl1⟩, fun D hD => ?_⟩
      refine lcf_list (xs := ps.map V.ref) L (fun f => (if f.1 = e.1 then some f.2 else none).map fun b => V.int (modeAt ns b)) hl1 (by rw [List.length_map, lps]) (by rw [List.length_map, lps]; omega) hD (fun j x f H3 hx he S3 R N hR hN => ?_) (fun H3 S3 hD3 => ?_)
      · rw [List.getElem?_map] at hx
        obtain ⟨t', ht', rfl⟩ := Option.map_eq_some_iff.mp hx
        obtain ⟨e', he', hte⟩ := paired_get pL1 ht'
        rw [he] at he'
        cases he'
        obtain ⟨r0, r1, r2⟩ := lkn f (List.mem_of_getElem? he)
        refine rd_gtup (Tup.of (show H3 t' = some (.tup [.int f.1, .int f.2]) from S3 _ _ hte)) rfl ?_
        walk_at "rd"
        refine ⟨rfl, ?_⟩
        walk_at "rd"
        by_cases c : f.1 = e.1
        · refine iteT' (decide_eq_true c) ?_
          walk_at "rd"
          refine rd_ixL (S3 _ _ hb) (modeAt_get (by omega) r2) ?_
          exact hR _ H3 (by rw [if_pos c]; rfl) (Same.refl _)
        · refine iteF' (decide_eq_false c) ?_
          exact hN H3 (by rw [if_neg c]; rfl) (Same.refl _)
      · rw [fm_map] at hD3
        walk_at "rd"
        refine ⟨l, rfl, ⟨_, SqL.of (S3 _ _ hl1)⟩, fun D2 hD2 => ?_⟩
        refine lcf_list (xs := ps.map V.ref) L (fun f => (if f.2 = e.1 then some f.1 else none).map fun b => V.int (modeAt ns b)) (S3 _ _ hl1) (by rw [List.length_map, lps]) (by rw [List.length_map, lps]; omega) hD2 (fun j x f H4 hx he S4 R N hR hN => ?_) (fun H4 S4 hD4 => ?_)
        · rw [List.getElem?_map] at hx
          obtain ⟨t', ht', rfl⟩ := Option.map_eq_some_iff.mp hx
          obtain ⟨e', he', hte⟩ := paired_get pL1 ht'
          rw [he] at he'
          cases he'
          obtain ⟨r0, r1, r2⟩ := lkn f (List.mem_of_getElem? he)
          refine rd_gtup (Tup.of (show H4 t' = some (.tup [.int f.1, .int f.2]) from S4 _ _ (S3 _ _ hte))) rfl ?_
          walk_at "rd"
          refine ⟨rfl, ?_⟩
          walk_at "rd"
          by_cases c : f.2 = e.1
          · refine iteT' (decide_eq_true c) ?_
            walk_at "rd"
            refine rd_ixL (S4 _ _ (S3 _ _ hb)) (modeAt_get r0 (by omega)) ?_
            exact hR _ H4 (by rw [if_pos c]; rfl) (Same.refl _)
          · refine iteF' (decide_eq_false c) ?_
            exact hN H4 (by rw [if_neg c]; rfl) (Same.refl _)
        · rw [fm_map] at hD4
          have lnn := nears_len ns L e.1
          have lnn2 := lnn
          unfold nears at lnn2
          rw [List.length_append] at lnn2
          refine rd_cat (S4 _ _ hD3) hD4 (by rw [List.length_map, List.length_map (f := V.int)]; omega) ?_
          rw [← List.map_append]
          intro r H5 r0 S5 hr5
          have hr5 : H5 r = some (.lst ((nears ns L e.1).map V.int)) := hr5
          have nin := nears_in (s := e.1) lkn mx
          have S25 := (S3.trans S4).trans S5
          have hb5 := S25 _ _ hb
          have hw5 := hw.same (S1.trans S25)
          clear hD3 hD4 hD hD2 lnn2
          walk_at "rd"
          refine ⟨r, rfl, ⟨_, SqL.of hr5⟩, fun D3 hD3 => ?_⟩
          refine lcv_list (xs := (nears ns L e.1).map V.int) (((nears ns L e.1).map fun o => at2 W e.2 o - at2 W (modeAt ns e.1) o).map V.int) hr5 (by simp) (by simp; omega) hD3 (fun j x z H6 hx hz S6 R hR => ?_) (fun H6 S6 hx6 => ?_)
          · rw [List.getElem?_map] at hx
            obtain ⟨o, ho, rfl⟩ := Option.map_eq_some_iff.mp hx
            rw [List.getElem?_map, List.getElem?_map, ho] at hz
            cases hz
            have lo := nin o (List.mem_of_getElem? ho)
            have lms := mx.at s0 (by omega)
            walk_at "rd"
            refine ⟨rfl, ?_⟩
            walk_at "rd"
            refine rd_at2 (hw5.same S6) ht.1 (by rw [g.l]; exact ht.2) fun q1 hq1 => ?_
            walk_at "rd"
            refine rd_rowAt hq1 lo.1 (by rw [g.row ht.1 ht.2]; exact lo.2) ?_
            walk_at "rd"
            refine rd_ixL (S6 _ _ hb5) (modeAt_get s0 (by omega)) ?_
            refine rd_at2 (hw5.same S6) lms.1 (by rw [g.l]; exact lms.2) fun q2 hq2 => ?_
            walk_at "rd"
            refine rd_rowAt hq2 lo.1 (by rw [g.row lms.1 lms.2]; exact lo.2) ?_
            walk_at "rd"
            exact hR H6 (Same.refl _)
          · walk_at "rd"
            refine rd_sum hx6 ?_
            have hb6 := S6 _ _ hb5
            have S16 := S1.trans (S25.trans S6)
            clear hb5 hr5 hD3 hx6 S25 S6
            walk_at "rd"
            refine rd_slL hb6 ?_
            rw [cut_take _ s0 (by rw [List.length_map]; omega), ← List.map_take]
            intro b1 H7 z7 S7 hb1
            walk_at "rd"
            intro b2 H8 z8 S8 hb2
            refine rd_cat (S8 _ _ hb1) hb2 (by rw [List.length_map, List.length_take]; show _ + 1 ≤ _; omega) ?_
            intro b3 H9 z9 S9 hb3
            walk_at "rd"
            have S69 := (S7.trans S8).trans S9
            refine rd_slL (S69 _ _ hb6) ?_
            rw [cut_drop _ (by omega) (by rw [List.length_map]; omega), ← List.map_drop]
            intro b4 H10 z10 S10 hb4
            refine rd_cat (S10 _ _ hb3) hb4 (by simp; omega) ?_
            intro b5 H11 z11 S11 hb5
            have es1 : (e.1 + 1).toNat = e.1.toNat + 1 := by omega
            have e5 : (ns.take e.1.toNat).map V.int ++ [V.int e.2] ++ (ns.drop (e.1 + 1).toNat).map V.int = (setM ns e.1 e.2).map V.int := by
              rw [es1]
              unfold setM
              rw [← cut_set ns e.2 (by omega : e.1.toNat < ns.length)]
              simp
            rw [e5] at hb5
            walk_at "rd"
            exact ⟨S16.trans ((S69.trans S10).trans S11), b5, hb5, _, _, _, rfl⟩
    · obtain ⟨S1, b, hb, o5, o6, o7, rfl⟩ := pv
      have e1 : S.take (ss.map V.ref).length = S := List.take_of_length_le (by rw [List.length_map]; omega)
      rw [e1] at hb ⊢
      walk_at "rd"
      intro r H2 z2 S2 hr2
      exact hQ H2 r b (S1.trans S2) hr2 (S2 _ _ hb)
theorem G__law_around : FnOk P w K mg base CX0 2 T.f__law_around T.d__law_around ["table", "four"] (spAround K) := by
  refine T.F__law_around.ok sc__law_around (fun vs H Q E h => ?_) fun cdv A outer s H vs Q E hr h => ⟨_, (pss_cons (ps_asg (pv 1) (pg_tupK (K := K) (n := 4) (by rfl) (pgs_cons (pg_name (i := 2) sc__law_around.nd rfl (.inl rfl)) (pgs_cons (pg_name (i := 3) sc__law_around.nd rfl (.inl rfl)) (pgs_cons (pg_name (i := 4) sc__law_around.nd rfl (.inl rfl)) (pgs_cons (pg_name (i := 5) sc__law_around.nd rfl (.inl rfl)) pgs_nil)))))) (pss_one (ps_ret (pe_ix (ix_tupK (K := K)) (pe_call (G__law_gains T) (hr.mono (by decide)) (by rfl) T.m__law_gains T.F__law_gains.kp T.b__law_gains .nil pass0 (by exact (pa_cons (pv 0) (pa_cons (pe_lst (pa_cons (pv 2) (pa_cons (pv 4) pa_nil))) (pa_cons (pe_lst (pa_cons (pe_tup (pa_cons pe_int (pa_cons pe_int pa_nil))) pa_nil)) (pa_cons (pe_lst (pa_cons (pe_tup (pa_cons pe_int (pa_cons (pv 3) pa_nil))) (pa_cons (pe_tup (pa_cons pe_int (pa_cons (pv 5) pa_nil))) (pa_cons (pe_tup (pa_cons pe_int (pa_cons (pv 2) pa_nil))) (pa_cons (pe_tup (pa_cons pe_int (pa_cons (pv 4) pa_nil))) pa_nil))))) pa_nil)))))) pe_int (fun _ _ => rfl))))), ?_⟩
  · obtain ⟨t, f, k, W, e, rfl, _⟩ := h
    rfl
  · obtain ⟨t, f, k, W, ⟨a, c, b, e⟩, rfl, hw, g, hf, la, lc, lb, le, hQ⟩ := h
    walk_at "rd"
    refine rd_gtup hf rfl ?_
    walk_at "rd"
    intro m H1 z1 S1 hm
    walk_at "rd"
    intro p1 H2 z2 S2 hp1
    walk_at "rd"
    intro l H3 z3 S3 hl
    walk_at "rd"
    intro u1 H4 z4 S4 hu1
    walk_at "rd"
    intro u2 H5 z5 S5 hu2
    walk_at "rd"
    intro u3 H6 z6 S6 hu3
    walk_at "rd"
    intro u4 H7 z7 S7 hu4
    walk_at "rd"
    intro s H8 z8 S8 hs
    have S48 := ((((S4.trans S5).trans S6).trans S7).trans S8)
    have S28 := S3.trans S48
    have S18 := S2.trans S28
    walk_at "rd"
    refine ⟨t, m, l, s, k, W, [a, b], [(0, 1)], [(0, c), (1, e), (0, a), (1, b)], rfl, hw.same (S1.trans S18), g, S18 _ _ hm, ⟨[p1], S48 _ _ hl, .cons (S28 _ _ hp1) .nil⟩,
      ⟨[u1, u2, u3, u4], hs, .cons (((((S5.trans S6).trans S7).trans S8)) _ _ hu1) (.cons (((S6.trans S7).trans S8) _ _ hu2) (.cons ((S7.trans S8) _ _ hu3) (.cons (S8 _ _ hu4) .nil)))⟩, ⟨fun x hx => ?_, fun x hx => ?_, fun x hx => ?_, by show 2 < 1000; decide, by show 1 < 10000; decide, by show 4 < 1000; decide⟩, fun H9 r b' S9 hr9 hb9 => ?_⟩
    · rcases List.mem_cons.mp hx with h | h
      · rw [h]; exact la
      · rw [List.mem_singleton.mp h]; exact lb
    · rw [List.mem_singleton.mp hx]
      exact ⟨show (0 : Int) ≤ 0 by decide, show (0 : Int) < 1 by decide, show (1 : Int) < ((2 : Nat) : Int) by decide⟩
    · simp only [List.mem_cons, List.not_mem_nil, or_false] at hx
      rcases hx with h | h | h | h <;> subst h
      · exact ⟨⟨show (0 : Int) ≤ 0 by decide, show (0 : Int) < ((2 : Nat) : Int) by decide⟩, lc⟩
      · exact ⟨⟨show (0 : Int) ≤ 1 by decide, show (1 : Int) < ((2 : Nat) : Int) by decide⟩, le⟩
      · exact ⟨⟨show (0 : Int) ≤ 0 by decide, show (0 : Int) < ((2 : Nat) : Int) by decide⟩, la⟩
      · exact ⟨⟨show (0 : Int) ≤ 1 by decide, show (1 : Int) < ((2 : Nat) : Int) by decide⟩, lb⟩
    · rw [around] at hr9
      walk_at "rd"
      refine rd_ixT (Tup.of hr9) rfl ?_
      walk_at "rd"
      exact hQ H9 ((S1.trans S18).trans S9)
end
end K69

namespace K69
open PySem PySem.Spec PyProof.Rows L2 KX
local macro_rules | `(tactic| walk_at "rd1") => `(tactic| first
  | with_reducible refine rd_seq ?_
  | with_reducible refine rd_for ?_
  | with_reducible refine rd_lc ?_
  | with_reducible refine rd_asg ?_
  | ((with_reducible refine' rd_var ?rdv ?_); (case rdv => exact rfl))
  | with_reducible refine rd_c ?_
  | with_reducible refine rd_op ?_
  | with_reducible refine rd_un ?_
  | with_reducible refine rd_cons ?_
  | with_reducible refine rd_nil ?_
  | with_reducible refine rd_call ?_
  | with_reducible refine rd_cb ?_
  | with_reducible refine rd_tB ?_
  | with_reducible refine rd_test ?_
  | with_reducible refine rd_bl ?_
  | with_reducible refine rd_rI0 ?_
  | with_reducible refine rd_eqI ?_
  | with_reducible refine rd_neI ?_
  | with_reducible refine rd_rU ?_
  | with_reducible refine rd_name ?_
  | with_reducible refine rd_ifs ?_
  | with_reducible refine rd_and ?_
  | with_reducible refine rd_or ?_
  | with_reducible refine rd_not ?_
  | with_reducible refine rd_yes ?_
  | with_reducible refine rd_andV ?_
  | with_reducible refine rd_orV ?_
  | with_reducible refine rd_notV ?_
  | with_reducible refine rd_if ?_
  | with_reducible refine rd_isN ?_
  | with_reducible refine rd_iT ?_
  | with_reducible refine rd_iF ?_
  | with_reducible refine rd_ret ?_
  | with_reducible refine rd_retN ?_
  | with_reducible refine rd_drop ?_
  | with_reducible refine rd_next ?_
  | with_reducible refine rd_cont ?_
  | with_reducible refine rd_brk ?_
  | with_reducible refine rd_nx ?_
  | with_reducible refine rd_rt ?_
  | with_reducible refine rd_ct ?_
  | with_reducible refine rd_bk ?_
  | with_reducible refine rd_par ?_
  | with_reducible refine rd_par3 ?_
  | with_reducible refine rd_par2 ?_
  | with_reducible refine rd_par33 ?_
  | with_reducible refine rd_gcons ?_
  | with_reducible refine rd_gnil ?_
  | with_reducible refine rd_sub ?_
  | with_reducible refine rd_tup ?_
  | with_reducible refine rd_lst ?_
  | ((with_reducible refine rd_tupT ?hl ?_); (case hl => exact Nat.le_of_ble_eq_true rfl))
  | ((with_reducible refine rd_lstT ?hl ?_); (case hl => exact Nat.le_of_ble_eq_true rfl))
  | with_reducible refine rd_bm ?_
  | with_reducible refine rd_bm0 ?_
  | with_reducible refine rd_sl ?_
  | with_reducible refine rd_noP ?_
  | with_reducible refine rd_part ?_
  | with_reducible refine rd_int ?_
  | with_reducible refine rd_int1 ?_
  | with_reducible refine rd_fld ?_
  | with_reducible refine rd_then ?_
  | with_reducible refine rd_raise ?_
  | with_reducible refine rd_one ?_
  | with_reducible refine rd_sfld ?_
  | with_reducible refine rd_ilist ?_
  | with_reducible refine rd_itup ?_
  | with_reducible refine rd_rng1 ?_
  | with_reducible refine rd_enum ?_
  | with_reducible refine rd_enumT ?_)
local macro_rules | `(tactic| walk_at "rd") => `(tactic| repeat (walk_at "rd1"))
def rangeI (n : Nat) : List Int := (List.range n).map fun i => ((i : Nat) : Int)
theorem rg_ints (n : Nat) : rgV 0 ((n : Nat) : Int) = (rangeI n).map V.int := by
  unfold rgV rangeI
  rw [List.map_map]
  have : (((n : Nat) : Int) - 0).toNat = n := by omega
  rw [this]
  refine List.map_congr_left fun i _ => ?_
  show V.int (0 + ((i : Nat) : Int)) = V.int ((i : Nat) : Int)
  rw [Int.zero_add]
def othI (k : Nat) (a : Int) : List Int := (rangeI k).filter fun x => decide (x ≠ a)
theorem mem_rangeI {k : Nat} {x : Int} : x ∈ rangeI k ↔ Lt k x := by
  unfold rangeI
  rw [List.mem_map]
  constructor
  · rintro ⟨i, hi, rfl⟩
    have := List.mem_range.mp hi
    constructor <;> omega
  · rintro ⟨h0, h1⟩
    exact ⟨x.toNat, List.mem_range.mpr (by omega), Int.toNat_of_nonneg h0⟩
theorem mem_oth {k : Nat} {a x : Int} : x ∈ othI k a ↔ Lt k x ∧ x ≠ a := by
  unfold othI
  rw [List.mem_filter, mem_rangeI, decide_eq_true_iff]
theorem oth_asc (k : Nat) (a : Int) : (othI k a).Pairwise (· < ·) := by
  unfold othI rangeI
  refine List.Pairwise.filter _ (List.pairwise_map.mpr ?_)
  have : (List.range k).Pairwise (· < ·) := List.pairwise_lt_range (n := k)
  exact this.imp fun h => by omega
theorem oth_len (k : Nat) (a : Int) : (othI k a).length ≤ k := by
  unfold othI
  have := List.length_filter_le (fun x => decide (x ≠ a)) (rangeI k)
  have e : (rangeI k).length = k := by unfold rangeI; simp
  omega
theorem asc_take {l : List Int} (h : l.Pairwise (· < ·)) {j : Nat} {c x : Int} (hj : l[j]? = some c) (hx : x ∈ l) (lt : x < c) : x ∈ l.take j := by
  obtain ⟨i, hi⟩ := List.getElem?_of_mem hx
  obtain ⟨lj, ej⟩ := List.getElem?_eq_some_iff.mp hj
  obtain ⟨li, ei⟩ := List.getElem?_eq_some_iff.mp hi
  have pw := List.pairwise_iff_getElem.mp h
  by_cases c1 : i < j
  · exact List.mem_of_getElem? (i := i) (by rw [List.getElem?_take, if_pos c1]; exact hi)
  · by_cases c2 : i = j
    · subst c2
      rw [ei] at ej
      omega
    · have := pw j i lj li (by omega)
      omega
theorem mem_take_succ {α : Type} {l : List α} {j : Nat} {c x : α} (hj : l[j]? = some c) (h : x ∈ l.take (j + 1)) : x ∈ l.take j ∨ x = c := by
  rw [List.take_succ, hj] at h
  rcases List.mem_append.mp h with z | z
  · exact .inl z
  · exact .inr (by simpa using z)
def folB (k : Nat) (W M : List (List Int)) : Bool := (List.range k).all fun a => (List.range k).all fun b => decide (at2 M ((a : Nat) : Int) ((b : Nat) : Int) = at2 M ((b : Nat) : Int) ((a : Nat) : Int)) && decide (at2 W ((a : Nat) : Int) ((b : Nat) : Int) - at2 W 0 ((b : Nat) : Int) = at2 M ((a : Nat) : Int) ((b : Nat) : Int) - at2 M 0 ((b : Nat) : Int))
def spFirst (K : PySem.W.Frag) : L2.Sp := fun vs H Q _ => ∃ (t : Addr) (k : Nat) (W : List (List Int)), vs = [.ref t] ∧ TabAt H t W ∧ Tk k W ∧
  (∀ q, firstQ k W = some q → ∀ H' r, Same H H' → FourAt H' r q → Q (.ref r) H') ∧ (firstQ k W = none → ∀ H', Same H H' → Q .non H')
def spFollows (K : PySem.W.Frag) : L2.Sp := fun vs H Q _ => ∃ (t u : Addr) (k : Nat) (W M : List (List Int)), vs = [.ref t, .ref u] ∧ TabAt H t W ∧ TabAt H u M ∧ Tk k W ∧ Tk k M ∧ ∀ H', Same H H' → Q (.bl (folB k W M)) H'
theorem rd_lstRg {ta : TE} {σ : L2.St} {H : Hp} {Q : VK} (h : ta σ H fun x H1 => ∃ n, x = .int n ∧ RgOk 0 n ∧ ∀ q, H1 q = none → Q (.ref q) (upd H1 q (.lst (rgV 0 n)))) : tLstRg (tRg1 ta) σ H Q := h
theorem rd_rgTail {n : Nat} {H1 : Hp} {Q : VK} (hn : n < 1000) (h : NewO H1 (.lst ((rangeI n).map V.int)) Q) : RgOk 0 ((n : Nat) : Int) ∧ ∀ q, H1 q = none → Q (.ref q) (upd H1 q (.lst (rgV 0 ((n : Nat) : Int)))) :=
  ⟨RgOk.of_le (by omega) (by omega) (by omega) (by omega), fun q hq => by rw [rg_ints]; exact new_of h q hq⟩
theorem range_at {k i : Nat} {x : V} (h : ((rangeI k).map V.int)[i]? = some x) : i < k ∧ x = .int ((i : Nat) : Int) := by
  have l : i < k := by
    have := (List.getElem?_eq_some_iff.mp h).1
    simpa [rangeI] using this
  unfold rangeI at h
  rw [List.map_map, List.getElem?_map, List.getElem?_range l] at h
  exact ⟨l, (Option.some.inj h).symm⟩
theorem oth_fm (k : Nat) (a : Int) : (rangeI k).filterMap (fun x => if x = a then none else some (V.int x)) = (othI k a).map V.int := by
  unfold othI
  induction rangeI k with
  | nil => rfl
  | cons x l ih =>
    rw [List.filterMap_cons, List.filter_cons]
    by_cases c : x = a
    · simp [c, ih]
    · simp [c, ih]
section
variable {P : Program} {w : World} {K : PySem.W.Frag} {mg : Str → Option Value} {base : Heap} (T : TX K mg)
theorem G__law_first : FnOk P w K mg base CX0 3 T.f__law_first T.d__law_first ["table"] (spFirst K) := by
  refine T.F__law_first.ok sc__law_first (fun vs H Q E h => ?_) fun cdv A outer s H vs Q E hr h => ⟨_, (pss_cons (ps_set (i := 1) sc__law_first.nd rfl (.inl rfl) (pe_listRg rfl (by rfl) T.n_list (prg_1 (by rfl) T.n_range (pe_callB (cr_lenK (K := K)) (by rfl) T.n_len (by decide +kernel) (by exact (pa_cons (pv 0) pa_nil)))))) (pss_cons (ps_for PassesOwn.never rfl (pi_listK (K := K) (pv 1)) (pg_name (i := 2) sc__law_first.nd rfl (.inr rfl)) (pss_one (ps_for PassesOwn.never rfl (pi_listK (K := K) (by exact (pe_lc (own := [("mode", 6)]) (by rfl) sc__law_first.nd (pi_listK (K := K) (pv 1)) (blkOk_by (own := [("mode", 6)]) (N := N__law_first) (sc := defScope s__law_first) (by decide +kernel)) (fun _ _ _ _ _ => (pg_name (i := 6) sc__law_first.nd rfl (.inl rfl))) (fun _ _ _ _ _ => pts_one (pt_cmpR op_ne (pv 6) (pv 2) (nomark _))) (fun _ _ _ _ _ => (pv 6)) ))) (pg_name (i := 3) sc__law_first.nd rfl (.inl rfl)) (pss_one (ps_for PassesOwn.never rfl (pi_listK (K := K) (pv 1)) (pg_name (i := 4) sc__law_first.nd rfl (.inr rfl)) (pss_one (ps_for PassesOwn.never rfl (pi_listK (K := K) (by exact (pe_lc (own := [("mode", 6)]) (by rfl) sc__law_first.nd (pi_listK (K := K) (pv 1)) (blkOk_by (own := [("mode", 6)]) (N := N__law_first) (sc := defScope s__law_first) (by decide +kernel)) (fun _ _ _ _ _ => (pg_name (i := 6) sc__law_first.nd rfl (.inl rfl))) (fun _ _ _ _ _ => pts_one (pt_cmpR op_ne (pv 6) (pv 4) (nomark _))) (fun _ _ _ _ _ => (pv 6)) ))) (pg_name (i := 5) sc__law_first.nd rfl (.inl rfl)) (pss_one (ps_if (pt_cmpR op_ne (pe_call (G__law_around T) (hr.mono (by decide)) (by rfl) T.m__law_around T.F__law_around.kp T.b__law_around .nil pass0 (by exact (pa_cons (pv 0) (pa_cons (pe_tup (pa_cons (pv 2) (pa_cons (pv 3) (pa_cons (pv 4) (pa_cons (pv 5) pa_nil))))) pa_nil)))) pe_int (nomark _)) (pss_one (ps_ret (pe_tup (pa_cons (pv 2) (pa_cons (pv 3) (pa_cons (pv 4) (pa_cons (pv 5) pa_nil))))))) pss_nil))))))))) (pss_one (ps_ret pe_non)))), ?_⟩
  · obtain ⟨t, k, W, rfl, _⟩ := h
    rfl
  · obtain ⟨t, k, W, rfl, hw, g, h1, h2⟩ := h
    have k4 := g.k4
    obtain ⟨qs, hq, hp⟩ := id hw
    have lq := paired_len hp
    walk_at "rd"
    refine rd_lstRg ?_
    walk_at "rd"
    refine rd_lenTup hq ?_
    rw [List.length_map, lq, g.l]
    refine ⟨((k : Nat) : Int), rfl, RgOk.of_le (by omega) (by omega) (by omega) (by omega), fun m z1 => ?_⟩
    rw [rg_ints]
    have S1 : Same H (upd H m (.lst ((rangeI k).map V.int))) := Same.fresh z1
    have hm : upd H m (.lst ((rangeI k).map V.int)) m = some (.lst ((rangeI k).map V.int)) := upd_same
    generalize upd H m (.lst ((rangeI k).map V.int)) = H1 at S1 hm ⊢
    walk_at "rd"
    have lr : (rangeI k).length = k := by unfold rangeI; simp
    refine ⟨m, rfl, ⟨_, SqL.of hm⟩, ?_⟩
    refine for_list (xs := (rangeI k).map V.int) (fun i σ H' => (∃ o2 o3 o4 o5, σ = [some (.ref t), some (.ref m), o2, o3, o4, o5, none]) ∧ Same H1 H' ∧ ∀ p ∈ quads k, p.1 < (i : Nat) → rs4 W p = 0)
      ⟨⟨_, _, _, _, rfl⟩, Same.refl _, fun p hp z => absurd z (by have := (mem_quads.mp hp).1.1; omega)⟩ (fun i σ H' _ pv => SqL.of (pv.2.1 _ _ hm)) (fun i x σ H2 hx pv => ?_) (fun σ H2 pv => ?_)
    · obtain ⟨⟨o2, o3, o4, o5, rfl⟩, SX, Z1⟩ := pv
      obtain ⟨hi, rfl⟩ := range_at hx
      walk_at "rd"
      obtain ⟨av, eav⟩ : ∃ av : Int, av = ((i : Nat) : Int) := ⟨_, rfl⟩
      rw [← eav] at Z1
      have la : Lt k av := by rw [eav]; constructor <;> omega
      generalize ho2 : some (V.int ((i : Nat) : Int)) = oa
      have hoa : oa = some (V.int av) := by rw [eav, ho2]
      subst hoa
      clear ho2
      walk_at "rd"
      refine ⟨m, rfl, ⟨_, SqL.of (SX _ _ hm)⟩, fun D hD => ?_⟩
      refine lcf_list (xs := (rangeI k).map V.int) (rangeI k) (fun x => if x = av then none else some (V.int x)) (SX _ _ hm) (by rw [List.length_map]) (by rw [List.length_map]; unfold rangeI; simp; omega) hD (fun j x e H3 hx he S3 R N hR hN => ?_) (fun H3 S3 hD3 => ?_)
      · rw [List.getElem?_map, he] at hx
        cases hx
        walk_at "rd"
        refine ⟨rfl, ?_⟩
        walk_at "rd"
        by_cases c : e = av
        · refine iteF' (by simp [c]) ?_
          exact hN H3 (by rw [if_pos c]) (Same.refl _)
        · refine iteT' (by simp [c]) ?_
          walk_at "rd"
          exact hR _ H3 (by rw [if_neg c]) (Same.refl _)
      have hD3' := hD3
      rw [oth_fm] at hD3'
      have S13 := SX.trans S3
      have lo := oth_len k av
      refine ⟨D, rfl, ⟨_, SqL.of hD3'⟩, ?_⟩
      refine for_list (xs := (othI k av).map V.int) (fun j σ H' => (∃ o3 o4 o5, σ = [some (.ref t), some (.ref m), some (.int av), o3, o4, o5, none]) ∧ Same H3 H' ∧ ∀ p ∈ quads k, p.1 = av → p.2.1 ∈ (othI k av).take j → rs4 W p = 0)
        ⟨⟨_, _, _, rfl⟩, Same.refl _, fun p hp _ z => by simp at z⟩ (fun i σ H' _ pv => SqL.of (pv.2.1 _ _ hD3')) (fun j x σ H4 hx pv => ?_) (fun σ H4 pv => ?_)
      · obtain ⟨⟨o3, o4, o5, rfl⟩, S4, Z2⟩ := pv
        rw [List.getElem?_map] at hx
        obtain ⟨cv, hcv, rfl⟩ := Option.map_eq_some_iff.mp hx
        obtain ⟨lc, ca⟩ := mem_oth.mp (List.mem_of_getElem? hcv)
        have S14 := S13.trans S4
        walk_at "rd"
        refine ⟨m, rfl, ⟨_, SqL.of (S14 _ _ hm)⟩, ?_⟩
        refine for_list (xs := (rangeI k).map V.int) (fun l σ H' => (∃ o4 o5, σ = [some (.ref t), some (.ref m), some (.int av), some (.int cv), o4, o5, none]) ∧ Same H4 H' ∧ ∀ p ∈ quads k, p.1 = av → p.2.1 = cv → p.2.2.1 < (l : Nat) → rs4 W p = 0)
          ⟨⟨_, _, rfl⟩, Same.refl _, fun p hp _ _ z => absurd z (by have := (mem_quads.mp hp).2.2.1.1; omega)⟩ (fun i σ H' _ pv => SqL.of (pv.2.1 _ _ (S14 _ _ hm))) (fun l x σ H5 hx pv => ?_) (fun σ H5 pv => ?_)
        · obtain ⟨⟨o4, o5, rfl⟩, S5, Z3⟩ := pv
          obtain ⟨hl, rfl⟩ := range_at hx
          have S15 := S14.trans S5
          obtain ⟨bv, ebv⟩ : ∃ bv : Int, bv = ((l : Nat) : Int) := ⟨_, rfl⟩
          rw [← ebv] at Z3
          have lb : Lt k bv := by rw [ebv]; constructor <;> omega
          walk_at "rd"
          generalize ho4 : some (V.int ((l : Nat) : Int)) = ob
          have hob : ob = some (V.int bv) := by rw [ebv, ho4]
          subst hob
          clear ho4
          walk_at "rd"
          refine ⟨m, rfl, ⟨_, SqL.of (S15 _ _ hm)⟩, fun D6 hDn => ?_⟩
          refine lcf_list (xs := (rangeI k).map V.int) (rangeI k) (fun x => if x = bv then none else some (V.int x)) (S15 _ _ hm) (by rw [List.length_map]) (by rw [List.length_map]; unfold rangeI; simp; omega) hDn (fun j x e H6 hx he S6 R N hR hN => ?_) (fun H6 S6 hD6 => ?_)
          · rw [List.getElem?_map, he] at hx
            cases hx
            walk_at "rd"
            refine ⟨rfl, ?_⟩
            walk_at "rd"
            by_cases c : e = bv
            · refine iteF' (by simp [c]) ?_
              exact hN H6 (by rw [if_pos c]) (Same.refl _)
            · refine iteT' (by simp [c]) ?_
              walk_at "rd"
              exact hR _ H6 (by rw [if_neg c]) (Same.refl _)
          have hD6' := hD6
          rw [oth_fm] at hD6'
          have S16 := S15.trans S6
          have lo2 := oth_len k bv
          refine ⟨D6, rfl, ⟨_, SqL.of hD6'⟩, ?_⟩
          refine for_list (xs := (othI k bv).map V.int) (fun n σ H' => (∃ o5, σ = [some (.ref t), some (.ref m), some (.int av), some (.int cv), some (.int bv), o5, none]) ∧ Same H6 H' ∧ ∀ p ∈ quads k, p.1 = av → p.2.1 = cv → p.2.2.1 = bv → p.2.2.2 ∈ (othI k bv).take n → rs4 W p = 0)
            ⟨⟨_, rfl⟩, Same.refl _, fun p hp _ _ _ z => by simp at z⟩ (fun i σ H' _ pv => SqL.of (pv.2.1 _ _ hD6')) (fun n x σ H7 hx pv => ?_) (fun σ H7 pv => ?_)
          · obtain ⟨⟨o5, rfl⟩, S7, Z4⟩ := pv
            rw [List.getElem?_map] at hx
            obtain ⟨ev, hev, rfl⟩ := Option.map_eq_some_iff.mp hx
            obtain ⟨le, eb⟩ := mem_oth.mp (List.mem_of_getElem? hev)
            have S17 := S16.trans S7
            walk_at "rd"
            intro f H8 z8 S8 hf8
            walk_at "rd"
            have S18 := S17.trans S8
            refine ⟨t, f, k, W, (av, cv, bv, ev), rfl, hw.same (S1.trans S18), g, Tup.of hf8, la, lc, lb, le, fun H9 S9 => ?_⟩
            walk_at "rd"
            by_cases cz : rs4 W (av, cv, bv, ev) = 0
            · refine iteF' (by rw [decide_eq_true cz]; rfl) ?_
              walk_at "rd"
              refine ⟨⟨_, rfl⟩, (S7.trans S8).trans S9, fun p hp e1 e2 e3 e4 => ?_⟩
              rcases mem_take_succ hev e4 with z | z
              · exact Z4 p hp e1 e2 e3 z
              · obtain ⟨p1, p2, p3, p4⟩ := p
                cases e1
                cases e2
                cases e3
                cases z
                exact cz
            · refine iteT' (by rw [decide_eq_false cz]; rfl) ?_
              walk_at "rd"
              intro r H10 z10 S10 hr10
              refine h1 (av, cv, bv, ev) (first_of (mem_quads.mpr ⟨la, lc, lb, le⟩) cz fun p hp lt => ?_) H10 r (((S1.trans S18).trans S9).trans S10) hr10
              obtain ⟨q1, q2, q3, q4⟩ := mem_quads.mp hp
              have lt : p.1 < av ∨ (p.1 = av ∧ (p.2.1 < cv ∨ (p.2.1 = cv ∧ (p.2.2.1 < bv ∨ (p.2.2.1 = bv ∧ p.2.2.2 < ev))))) := lt
              rcases lt with x | ⟨x1, x | ⟨x2, x | ⟨x3, x⟩⟩⟩
              · exact Z1 p hp x
              · by_cases y : p.2.1 = av
                · show rsum W p.1 p.2.1 p.2.2.1 p.2.2.2 = 0
                  rw [x1, y]
                  exact rs_ac W _ _ _
                · exact Z2 p hp x1 (asc_take (oth_asc k av) hcv (mem_oth.mpr ⟨q2, y⟩) x)
              · exact Z3 p hp x1 x2 x
              · by_cases y : p.2.2.2 = bv
                · show rsum W p.1 p.2.1 p.2.2.1 p.2.2.2 = 0
                  rw [x3, y]
                  exact rs_be W _ _ _
                · exact Z4 p hp x1 x2 x3 (asc_take (oth_asc k bv) hev (mem_oth.mpr ⟨q4, y⟩) x)
          · obtain ⟨⟨o5, rfl⟩, S7, Z4⟩ := pv
            rw [List.length_map, List.take_of_length_le (Nat.le_refl _)] at Z4
            refine ⟨⟨_, _, rfl⟩, (S5.trans S6).trans S7, fun p hp e1 e2 z => ?_⟩
            by_cases e3 : p.2.2.1 = bv
            · by_cases e4 : p.2.2.2 = bv
              · show rsum W p.1 p.2.1 p.2.2.1 p.2.2.2 = 0
                rw [e3, e4]
                exact rs_be W _ _ _
              · exact Z4 p hp e1 e2 e3 (mem_oth.mpr ⟨(mem_quads.mp hp).2.2.2, e4⟩)
            · exact Z3 p hp e1 e2 (by omega)
        · obtain ⟨⟨o4, o5, rfl⟩, S5, Z3⟩ := pv
          rw [List.length_map, lr] at Z3
          refine ⟨⟨_, _, _, rfl⟩, S4.trans S5, fun p hp e1 e2 => ?_⟩
          rcases mem_take_succ hcv e2 with z | z
          · exact Z2 p hp e1 z
          · exact Z3 p hp e1 z (mem_quads.mp hp).2.2.1.2
      · obtain ⟨⟨o3, o4, o5, rfl⟩, S4, Z2⟩ := pv
        rw [List.length_map, List.take_of_length_le (Nat.le_refl _)] at Z2
        refine ⟨⟨_, _, _, _, rfl⟩, S13.trans S4, fun p hp z => ?_⟩
        by_cases e1 : p.1 = av
        · by_cases e2 : p.2.1 = av
          · show rsum W p.1 p.2.1 p.2.2.1 p.2.2.2 = 0
            rw [e1, e2]
            exact rs_ac W _ _ _
          · exact Z2 p hp e1 (mem_oth.mpr ⟨(mem_quads.mp hp).2.1, e2⟩)
        · exact Z1 p hp (by omega)
    · obtain ⟨⟨o2, o3, o4, o5, rfl⟩, S2, Z1⟩ := pv
      rw [List.length_map, lr] at Z1
      walk_at "rd"
      exact h2 (none_of fun p hp => Z1 p hp (mem_quads.mp hp).1.2) H2 (S1.trans S2)
end
end K69

namespace K69
open PySem PySem.Spec PyProof.Rows L2 KX
local macro_rules | `(tactic| walk_at "rd1") => `(tactic| first
  | with_reducible refine rd_seq ?_
  | with_reducible refine rd_for ?_
  | with_reducible refine rd_lc ?_
  | with_reducible refine rd_asg ?_
  | ((with_reducible refine' rd_var ?rdv ?_); (case rdv => exact rfl))
  | with_reducible refine rd_c ?_
  | with_reducible refine rd_op ?_
  | with_reducible refine rd_un ?_
  | with_reducible refine rd_cons ?_
  | with_reducible refine rd_nil ?_
  | with_reducible refine rd_call ?_
  | with_reducible refine rd_cb ?_
  | with_reducible refine rd_tB ?_
  | with_reducible refine rd_test ?_
  | with_reducible refine rd_bl ?_
  | with_reducible refine rd_rI0 ?_
  | with_reducible refine rd_eqI ?_
  | with_reducible refine rd_neI ?_
  | with_reducible refine rd_rU ?_
  | with_reducible refine rd_name ?_
  | with_reducible refine rd_ifs ?_
  | with_reducible refine rd_and ?_
  | with_reducible refine rd_or ?_
  | with_reducible refine rd_not ?_
  | with_reducible refine rd_yes ?_
  | with_reducible refine rd_andV ?_
  | with_reducible refine rd_orV ?_
  | with_reducible refine rd_notV ?_
  | with_reducible refine rd_if ?_
  | with_reducible refine rd_isN ?_
  | with_reducible refine rd_iT ?_
  | with_reducible refine rd_iF ?_
  | with_reducible refine rd_ret ?_
  | with_reducible refine rd_retN ?_
  | with_reducible refine rd_drop ?_
  | with_reducible refine rd_next ?_
  | with_reducible refine rd_cont ?_
  | with_reducible refine rd_brk ?_
  | with_reducible refine rd_nx ?_
  | with_reducible refine rd_rt ?_
  | with_reducible refine rd_ct ?_
  | with_reducible refine rd_bk ?_
  | with_reducible refine rd_par ?_
  | with_reducible refine rd_par3 ?_
  | with_reducible refine rd_par2 ?_
  | with_reducible refine rd_par33 ?_
  | with_reducible refine rd_gcons ?_
  | with_reducible refine rd_gnil ?_
  | with_reducible refine rd_sub ?_
  | with_reducible refine rd_tup ?_
  | with_reducible refine rd_lst ?_
  | ((with_reducible refine rd_tupT ?hl ?_); (case hl => exact Nat.le_of_ble_eq_true rfl))
  | ((with_reducible refine rd_lstT ?hl ?_); (case hl => exact Nat.le_of_ble_eq_true rfl))
  | with_reducible refine rd_bm ?_
  | with_reducible refine rd_bm0 ?_
  | with_reducible refine rd_sl ?_
  | with_reducible refine rd_noP ?_
  | with_reducible refine rd_part ?_
  | with_reducible refine rd_int ?_
  | with_reducible refine rd_int1 ?_
  | with_reducible refine rd_fld ?_
  | with_reducible refine rd_then ?_
  | with_reducible refine rd_raise ?_
  | with_reducible refine rd_one ?_
  | with_reducible refine rd_sfld ?_
  | with_reducible refine rd_ilist ?_
  | with_reducible refine rd_itup ?_
  | with_reducible refine rd_rng1 ?_
  | with_reducible refine rd_enum ?_
  | with_reducible refine rd_enumT ?_)
local macro_rules | `(tactic| walk_at "rd") => `(tactic| repeat (walk_at "rd1"))
theorem fol_no {k : Nat} {W M : List (List Int)} {a b : Nat} (ha : a < k) (hb : b < k) (h : ¬(at2 M ((a : Nat) : Int) ((b : Nat) : Int) = at2 M ((b : Nat) : Int) ((a : Nat) : Int) ∧ at2 W ((a : Nat) : Int) ((b : Nat) : Int) - at2 W 0 ((b : Nat) : Int) = at2 M ((a : Nat) : Int) ((b : Nat) : Int) - at2 M 0 ((b : Nat) : Int))) : folB k W M = false := by
  cases e : folB k W M with
  | false => rfl
  | true =>
    unfold folB at e
    have e1 := List.all_eq_true.mp e a (List.mem_range.mpr ha)
    have e2 := List.all_eq_true.mp e1 b (List.mem_range.mpr hb)
    rw [Bool.and_eq_true, decide_eq_true_iff, decide_eq_true_iff] at e2
    exact absurd e2 h
theorem fol_yes {k : Nat} {W M : List (List Int)} (h : ∀ a b : Nat, a < k → b < k → at2 M ((a : Nat) : Int) ((b : Nat) : Int) = at2 M ((b : Nat) : Int) ((a : Nat) : Int) ∧ at2 W ((a : Nat) : Int) ((b : Nat) : Int) - at2 W 0 ((b : Nat) : Int) = at2 M ((a : Nat) : Int) ((b : Nat) : Int) - at2 M 0 ((b : Nat) : Int)) : folB k W M = true := by
  unfold folB
  refine List.all_eq_true.mpr fun a ha => List.all_eq_true.mpr fun b hb => ?_
  rw [Bool.and_eq_true, decide_eq_true_iff, decide_eq_true_iff]
  exact h a b (List.mem_range.mp ha) (List.mem_range.mp hb)
theorem nd_t {p : Prop} [Decidable p] (h : p) : (!decide p) = false := by rw [decide_eq_true h]; rfl
theorem nd_f {p : Prop} [Decidable p] (h : ¬p) : (!decide p) = true := by rw [decide_eq_false h]; rfl
theorem fm_none {α β : Type} (l : List α) : l.filterMap (fun _ => (none : Option β)) = [] := by
  induction l with
  | nil => rfl
  | cons x l ih => rw [List.filterMap_cons]; exact ih
section
variable {P : Program} {w : World} {K : PySem.W.Frag} {mg : Str → Option Value} {base : Heap} (T : TX K mg)
theorem G__law_follows : FnOk P w K mg base CX0 1 T.f__law_follows T.d__law_follows ["table", "rows"] (spFollows K) := by
  refine T.F__law_follows.ok sc__law_follows (fun vs H Q E h => ?_) fun cdv A outer s H vs Q E hr h => ⟨_, (pss_cons (ps_set (i := 2) sc__law_follows.nd rfl (.inl rfl) (pe_callB (cr_lenK (K := K)) (by rfl) T.n_len (by decide +kernel) (by exact (pa_cons (pv 0) pa_nil)))) (pss_cons (ps_if (PW.pt (pw_or (pt_not (pt_val (pe_callB (cr_isiK (K := K)) (by rfl) T.n_isinstance (by decide +kernel) (by exact (pa_cons (pv 1) (pa_cons (pe_bltn (v := .ty "tuple") rfl T.n_tuple (by decide +kernel) rfl) pa_nil)))))) (pw_or1 (pt_cmpR op_ne (pe_callB (cr_lenK (K := K)) (by rfl) T.n_len (by decide +kernel) (by exact (pa_cons (pv 1) pa_nil))) (pv 2) (nomark _))))) (pss_one (ps_ret pe_bl)) pss_nil) (pss_cons (ps_for PassesOwn.never rfl (pi_tupK (K := K) (pv 1)) (pg_name (i := 3) sc__law_follows.nd rfl (.inl rfl)) (pss_cons (ps_if (PW.pt (pw_or (pt_not (pt_val (pe_callB (cr_isiK (K := K)) (by rfl) T.n_isinstance (by decide +kernel) (by exact (pa_cons (pv 3) (pa_cons (pe_bltn (v := .ty "tuple") rfl T.n_tuple (by decide +kernel) rfl) pa_nil)))))) (pw_or1 (pt_cmpR op_ne (pe_callB (cr_lenK (K := K)) (by rfl) T.n_len (by decide +kernel) (by exact (pa_cons (pv 3) pa_nil))) (pv 2) (nomark _))))) (pss_one (ps_ret pe_bl)) pss_nil) (pss_one (ps_if (pt_cmpR (op_neDK (K := K) hr.units) (by exact (pe_lc (own := [("one", 6)]) (by rfl) sc__law_follows.nd (pi_tupK (K := K) (pv 3)) (blkOk_by (own := [("one", 6)]) (N := N__law_follows) (sc := defScope s__law_follows) (by decide +kernel)) (fun _ _ _ _ _ => (pg_name (i := 6) sc__law_follows.nd rfl (.inl rfl))) (fun _ _ _ _ _ => pts_one (PW.pt (pw_or (pt_not (pt_val (pe_callB (cr_isiK (K := K)) (by rfl) T.n_isinstance (by decide +kernel) (by exact (pa_cons (pv 6) (pa_cons (pe_bltn (v := .ty "int") rfl T.n_int (by decide +kernel) rfl) pa_nil)))))) (pw_or1 (pt_val (pe_callB (cr_isiK (K := K)) (by rfl) T.n_isinstance (by decide +kernel) (by exact (pa_cons (pv 6) (pa_cons (pe_bltn (v := .ty "bool") rfl T.n_bool (by decide +kernel) rfl) pa_nil))))))))) (fun _ _ _ _ _ => (pv 6)) )) (pe_lst pa_nil) (nomark _)) (pss_one (ps_ret pe_bl)) pss_nil)))) (pss_cons (ps_for PassesOwn.never rfl (pi_range1 (by rfl) T.n_range (by exact (pa_cons (pv 2) pa_nil))) (pg_name (i := 4) sc__law_follows.nd rfl (.inl rfl)) (pss_one (ps_for PassesOwn.never rfl (pi_range1 (by rfl) T.n_range (by exact (pa_cons (pv 2) pa_nil))) (pg_name (i := 5) sc__law_follows.nd rfl (.inl rfl)) (pss_one (ps_if (PW.pt (pw_or (pt_cmpR op_ne (pe_ix (ix_tupK (K := K)) (pe_ix (ix_tupK (K := K)) (pv 1) (pv 4) (fun _ _ => rfl)) (pv 5) (fun _ _ => rfl)) (pe_ix (ix_tupK (K := K)) (pe_ix (ix_tupK (K := K)) (pv 1) (pv 5) (fun _ _ => rfl)) (pv 4) (fun _ _ => rfl)) (nomark _)) (pw_or1 (pt_cmpR op_ne (pe_op op_sub (pe_ix (ix_tupK (K := K)) (pe_ix (ix_tupK (K := K)) (pv 0) (pv 4) (fun _ _ => rfl)) (pv 5) (fun _ _ => rfl)) (pe_ix (ix_tupK (K := K)) (pe_ix (ix_tupK (K := K)) (pv 0) pe_int (fun _ _ => rfl)) (pv 5) (fun _ _ => rfl))) (pe_op op_sub (pe_ix (ix_tupK (K := K)) (pe_ix (ix_tupK (K := K)) (pv 1) (pv 4) (fun _ _ => rfl)) (pv 5) (fun _ _ => rfl)) (pe_ix (ix_tupK (K := K)) (pe_ix (ix_tupK (K := K)) (pv 1) pe_int (fun _ _ => rfl)) (pv 5) (fun _ _ => rfl))) (nomark _))))) (pss_one (ps_ret pe_bl)) pss_nil))))) (pss_one (ps_ret pe_bl)))))), ?_⟩
  · obtain ⟨t, u, k, W, M, rfl, _⟩ := h
    rfl
  · obtain ⟨t, u, k, W, M, rfl, hw, hm, g, g2, hQ⟩ := h
    have k4 := g.k4
    obtain ⟨qs, hq, hp⟩ := id hw
    have lq := paired_len hp
    obtain ⟨us, hu, hpu⟩ := id hm
    have lu := paired_len hpu
    have isT : ∀ {H' : Hp} {a : Addr} {xs : List V} {R : VK}, Tup H' a xs → R (.bl true) H' → rIsi K [.ref a, .ty "tuple"] H' R := fun h q => ⟨_, _, _, _, true, rfl, .ty "tuple", h.ty, kit_ty (by decide +kernel), q⟩
    walk_at "rd"
    refine rd_lenTup hq ?_
    walk_at "rd"
    rw [List.length_map, lq, g.l]
    refine isT hu ?_
    walk_at "rd"
    refine iteF' rfl ?_
    walk_at "rd"
    refine rd_lenTup hu ?_
    walk_at "rd"
    rw [List.length_map, lu, g2.l]
    refine iteF' (by simp) ?_
    walk_at "rd"
    refine ⟨u, rfl, ⟨_, hu.sq⟩, ?_⟩
    refine for_tup (xs := us.map V.ref) (fun i σ H' => (∃ o3 o4 o5, σ = [some (.ref t), some (.ref u), some (.int (k : Nat)), o3, o4, o5, none]) ∧ Same H H')
      ⟨⟨_, _, _, rfl⟩, Same.refl _⟩ (fun i σ H' _ pv => (hu.same pv.2).sq) (fun i x σ H1 hx pv => ?_) (fun σ H1 pv => ?_)
    · obtain ⟨⟨o3, o4, o5, rfl⟩, S1⟩ := pv
      rw [List.getElem?_map] at hx
      obtain ⟨r, hr, rfl⟩ := Option.map_eq_some_iff.mp hx
      obtain ⟨row, hrow, hrr⟩ := paired_get hpu hr
      have lr := g2.r row (List.mem_of_getElem? hrow)
      have hr1 := rowT_same hrr S1
      walk_at "rd"
      refine isT hr1 ?_
      walk_at "rd"
      refine iteF' rfl ?_
      walk_at "rd"
      refine rd_lenTup hr1 ?_
      walk_at "rd"
      rw [List.length_map, lr]
      refine iteF' (by simp) ?_
      walk_at "rd"
      refine ⟨r, rfl, ⟨_, hr1.sq⟩, fun D hD => ?_⟩
      refine lcf_tup (xs := row.map V.int) row (fun _ => none) hr1 (by rw [List.length_map]) (by rw [List.length_map]; omega) hD (fun j x e H3 hx he S3 R N hR hN => ?_) (fun H3 S3 hD3 => ?_)
      · rw [List.getElem?_map, he] at hx
        cases hx
        walk_at "rd"
        refine ⟨rfl, ?_⟩
        obtain ⟨n, b1, b2, ty, c1, c2, ee⟩ := (Kin.int e : Kin K H3 (.int e) (some e)).ty
        walk_at "rd"
        refine ⟨_, _, _, _, _, rfl, .ty "int", ty, kit_ty c1, ?_⟩
        cases b1 with
        | false => simp at ee
        | true =>
          walk_at "rd"
          refine iteF' rfl ?_
          walk_at "rd"
          refine ⟨_, _, _, _, _, rfl, .ty "bool", ty, kit_ty c2, ?_⟩
          cases b2 with
          | true => simp at ee
          | false =>
            walk_at "rd"
            exact hN H3 rfl (Same.refl _)
      · rw [fm_none] at hD3
        walk_at "rd"
        intro D2 H4 z4 S4 hD4
        refine ⟨.list [], .list [], .lst (SqL.of (S4 _ _ hD3)) .nil, .lst (SqL.of hD4) .nil, by decide +kernel, by decide +kernel, ?_⟩
        walk_at "rd"
        refine iteF' (by decide +kernel) ?_
        walk_at "rd"
        exact ⟨⟨_, _, _, rfl⟩, (S1.trans S3).trans S4⟩
    · obtain ⟨⟨o3, o4, o5, rfl⟩, S1⟩ := pv
      walk_at "rd"
      refine ⟨by omega, by omega, ?_⟩
      rw [show (((k : Nat) : Int)).toNat = k by omega]
      refine for_range (lo := 0) (n := k) (fun i σ H' => (∃ o3 o4 o5, σ = [some (.ref t), some (.ref u), some (.int (k : Nat)), o3, o4, o5, none]) ∧ H' = H1 ∧ ∀ a b : Nat, a < i → b < k → at2 M ((a : Nat) : Int) ((b : Nat) : Int) = at2 M ((b : Nat) : Int) ((a : Nat) : Int) ∧ at2 W ((a : Nat) : Int) ((b : Nat) : Int) - at2 W 0 ((b : Nat) : Int) = at2 M ((a : Nat) : Int) ((b : Nat) : Int) - at2 M 0 ((b : Nat) : Int))
        ⟨⟨_, _, _, rfl⟩, rfl, fun a b h => absurd h (Nat.not_lt_zero _)⟩ (fun i σ H' hi pv => ?_) (fun σ H' pv => ?_)
      · obtain ⟨⟨o3, o4, o5, rfl⟩, rfl, Z1⟩ := pv
        rw [Int.zero_add]
        walk_at "rd"
        refine ⟨by omega, by omega, ?_⟩
        rw [show (((k : Nat) : Int)).toNat = k by omega]
        refine for_range (lo := 0) (n := k) (fun j σ H2 => (∃ o3 o5, σ = [some (.ref t), some (.ref u), some (.int (k : Nat)), o3, some (.int (i : Nat)), o5, none]) ∧ H2 = H' ∧ ∀ b : Nat, b < j → at2 M ((i : Nat) : Int) ((b : Nat) : Int) = at2 M ((b : Nat) : Int) ((i : Nat) : Int) ∧ at2 W ((i : Nat) : Int) ((b : Nat) : Int) - at2 W 0 ((b : Nat) : Int) = at2 M ((i : Nat) : Int) ((b : Nat) : Int) - at2 M 0 ((b : Nat) : Int))
          ⟨⟨_, _, rfl⟩, rfl, fun b h => absurd h (Nat.not_lt_zero _)⟩ (fun j σ H2 hj pv => ?_) (fun σ H2 pv => ?_)
        · obtain ⟨⟨o3, o5, rfl⟩, rfl, Z2⟩ := pv
          rw [Int.zero_add]
          have li : Lt k ((i : Nat) : Int) := by constructor <;> omega
          have lj : Lt k ((j : Nat) : Int) := by constructor <;> omega
          have l0 : Lt k 0 := by constructor <;> omega
          have hw1 := hw.same S1
          have hm1 := hm.same S1
          walk_at "rd"
          refine rd_at2 hm1 li.1 (by rw [g2.l]; exact li.2) fun r1 hr1 => ?_
          walk_at "rd"
          refine rd_rowAt hr1 lj.1 (by rw [g2.row li.1 li.2]; exact lj.2) ?_
          walk_at "rd"
          refine rd_at2 hm1 lj.1 (by rw [g2.l]; exact lj.2) fun r2 hr2 => ?_
          walk_at "rd"
          refine rd_rowAt hr2 li.1 (by rw [g2.row lj.1 lj.2]; exact li.2) ?_
          walk_at "rd"
          by_cases c1 : at2 M ((i : Nat) : Int) ((j : Nat) : Int) = at2 M ((j : Nat) : Int) ((i : Nat) : Int)
          · refine iteF' (nd_t c1) ?_
            walk_at "rd"
            refine rd_at2 hw1 li.1 (by rw [g.l]; exact li.2) fun r3 hr3 => ?_
            walk_at "rd"
            refine rd_rowAt hr3 lj.1 (by rw [g.row li.1 li.2]; exact lj.2) ?_
            walk_at "rd"
            refine rd_at2 hw1 l0.1 (by rw [g.l]; exact l0.2) fun r4 hr4 => ?_
            walk_at "rd"
            refine rd_rowAt hr4 lj.1 (by rw [g.row l0.1 l0.2]; exact lj.2) ?_
            walk_at "rd"
            refine rd_at2 hm1 li.1 (by rw [g2.l]; exact li.2) fun r5 hr5 => ?_
            walk_at "rd"
            refine rd_rowAt hr5 lj.1 (by rw [g2.row li.1 li.2]; exact lj.2) ?_
            walk_at "rd"
            refine rd_at2 hm1 l0.1 (by rw [g2.l]; exact l0.2) fun r6 hr6 => ?_
            walk_at "rd"
            refine rd_rowAt hr6 lj.1 (by rw [g2.row l0.1 l0.2]; exact lj.2) ?_
            walk_at "rd"
            by_cases c2 : at2 W ((i : Nat) : Int) ((j : Nat) : Int) - at2 W 0 ((j : Nat) : Int) = at2 M ((i : Nat) : Int) ((j : Nat) : Int) - at2 M 0 ((j : Nat) : Int)
            · refine iteF' (nd_t c2) ?_
              walk_at "rd"
              refine ⟨⟨_, _, rfl⟩, rfl, fun b hb => ?_⟩
              by_cases e : b = j
              · subst e
                exact ⟨c1, c2⟩
              · exact Z2 b (by omega)
            · refine iteT' (nd_f c2) ?_
              walk_at "rd"
              have q := hQ _ S1
              rw [fol_no (a := i) (b := j) hi hj fun z => c2 z.2] at q
              exact q
          · refine iteT' (nd_f c1) ?_
            walk_at "rd"
            have q := hQ _ S1
            rw [fol_no (a := i) (b := j) hi hj fun z => c1 z.1] at q
            exact q
        · obtain ⟨⟨o3, o5, rfl⟩, rfl, Z2⟩ := pv
          refine ⟨⟨_, _, _, rfl⟩, rfl, fun a b ha hb => ?_⟩
          by_cases e : a = i
          · subst e
            exact Z2 b hb
          · exact Z1 a b (by omega) hb
      · obtain ⟨⟨o3, o4, o5, rfl⟩, rfl, Z1⟩ := pv
        walk_at "rd"
        have q := hQ _ S1
        rw [fol_yes Z1] at q
        exact q
end
end K69

namespace K69
open PySem PySem.Spec PyProof.Rows L2 KX
local macro_rules | `(tactic| walk_at "rd1") => `(tactic| first
  | with_reducible refine rd_seq ?_
  | with_reducible refine rd_for ?_
  | with_reducible refine rd_lc ?_
  | with_reducible refine rd_asg ?_
  | ((with_reducible refine' rd_var ?rdv ?_); (case rdv => exact rfl))
  | with_reducible refine rd_c ?_
  | with_reducible refine rd_op ?_
  | with_reducible refine rd_un ?_
  | with_reducible refine rd_cons ?_
  | with_reducible refine rd_nil ?_
  | with_reducible refine rd_call ?_
  | with_reducible refine rd_cb ?_
  | with_reducible refine rd_tB ?_
  | with_reducible refine rd_test ?_
  | with_reducible refine rd_bl ?_
  | with_reducible refine rd_rI0 ?_
  | with_reducible refine rd_eqI ?_
  | with_reducible refine rd_neI ?_
  | with_reducible refine rd_rU ?_
  | with_reducible refine rd_name ?_
  | with_reducible refine rd_ifs ?_
  | with_reducible refine rd_and ?_
  | with_reducible refine rd_or ?_
  | with_reducible refine rd_not ?_
  | with_reducible refine rd_yes ?_
  | with_reducible refine rd_andV ?_
  | with_reducible refine rd_orV ?_
  | with_reducible refine rd_notV ?_
  | with_reducible refine rd_if ?_
  | with_reducible refine rd_isN ?_
  | with_reducible refine rd_iT ?_
  | with_reducible refine rd_iF ?_
  | with_reducible refine rd_ret ?_
  | with_reducible refine rd_retN ?_
  | with_reducible refine rd_drop ?_
  | with_reducible refine rd_next ?_
  | with_reducible refine rd_cont ?_
  | with_reducible refine rd_brk ?_
  | with_reducible refine rd_nx ?_
  | with_reducible refine rd_rt ?_
  | with_reducible refine rd_ct ?_
  | with_reducible refine rd_bk ?_
  | with_reducible refine rd_par ?_
  | with_reducible refine rd_par3 ?_
  | with_reducible refine rd_par2 ?_
  | with_reducible refine rd_par33 ?_
  | with_reducible refine rd_gcons ?_
  | with_reducible refine rd_gnil ?_
  | with_reducible refine rd_sub ?_
  | with_reducible refine rd_tup ?_
  | with_reducible refine rd_lst ?_
  | ((with_reducible refine rd_tupT ?hl ?_); (case hl => exact Nat.le_of_ble_eq_true rfl))
  | ((with_reducible refine rd_lstT ?hl ?_); (case hl => exact Nat.le_of_ble_eq_true rfl))
  | with_reducible refine rd_bm ?_
  | with_reducible refine rd_bm0 ?_
  | with_reducible refine rd_sl ?_
  | with_reducible refine rd_noP ?_
  | with_reducible refine rd_part ?_
  | with_reducible refine rd_int ?_
  | with_reducible refine rd_int1 ?_
  | with_reducible refine rd_fld ?_
  | with_reducible refine rd_then ?_
  | with_reducible refine rd_raise ?_
  | with_reducible refine rd_one ?_
  | with_reducible refine rd_sfld ?_
  | with_reducible refine rd_ilist ?_
  | with_reducible refine rd_itup ?_
  | with_reducible refine rd_rng1 ?_
  | with_reducible refine rd_enum ?_
  | with_reducible refine rd_enumT ?_)
local macro_rules | `(tactic| walk_at "rd") => `(tactic| repeat (walk_at "rd1"))
/-! ### all changes made -/
def setAll (ms : List Int) (S : List (Int × Int)) : List Int := S.foldl (fun ms e => setM ms e.1 e.2) ms
theorem setAll_nil (ms : List Int) : setAll ms [] = ms := rfl
theorem setAll_app (ms : List Int) (S S' : List (Int × Int)) : setAll ms (S ++ S') = setAll (setAll ms S) S' := List.foldl_append ..
theorem setAll_snoc (ms : List Int) (S : List (Int × Int)) (a b : Int) : setAll ms (S ++ [(a, b)]) = setM (setAll ms S) a b := by rw [setAll_app]; rfl
theorem setAll_len : ∀ (S : List (Int × Int)) (ms : List Int), (setAll ms S).length = ms.length
  | [], _ => rfl
  | e :: S, ms => by
    show (setAll (setM ms e.1 e.2) S).length = _
    rw [setAll_len S, setM_len]
theorem gains_set (W : List (List Int)) (L : List (Int × Int)) : ∀ (S : List (Int × Int)) (x : Int × List Int), (S.foldl (gstep W L) x).2 = setAll x.2 S
  | [], _ => rfl
  | e :: S, x => gains_set W L S (gstep W L x e)
theorem setAll_in {n k : Nat} : ∀ {S : List (Int × Int)} {ms : List Int}, StIn n k S → MsIn k ms → MsIn k (setAll ms S)
  | [], _, _, h => h
  | e :: S, ms, hs, h => setAll_in (S := S) (fun y hy => hs y (List.mem_cons_of_mem _ hy)) (MsIn.set h (hs e List.mem_cons_self).2)
/-- changes to what is told: behind them the sites named are as told -/
theorem setAll_at {n : Nat} {ms : List Int} : ∀ {S : List (Int × Int)} {now : List Int}, (∀ e ∈ S, (0 ≤ e.1 ∧ e.1 < n) ∧ e.2 = modeAt ms e.1) → now.length = n → ∀ j : Int, 0 ≤ j → (modeAt (setAll now S) j = modeAt ms j ∨ (modeAt (setAll now S) j = modeAt now j ∧ ∀ e ∈ S, e.1 ≠ j))
  | [], now, _, _, j, _ => .inr ⟨rfl, by simp⟩
  | e :: S, now, hs, hl, j, j0 => by
    obtain ⟨⟨e0, e1⟩, e2⟩ := hs e List.mem_cons_self
    have ih := setAll_at (S := S) (now := setM now e.1 e.2) (fun y hy => hs y (List.mem_cons_of_mem _ hy)) (by rw [setM_len]; exact hl) j j0
    show modeAt (setAll (setM now e.1 e.2) S) j = _ ∨ (modeAt (setAll (setM now e.1 e.2) S) j = _ ∧ _)
    rcases ih with h | ⟨h, no⟩
    · exact .inl h
    · rw [h, modeAt_set e0 (by omega) j0]
      by_cases c : j = e.1
      · rw [if_pos c, e2, c]
        exact .inl rfl
      · rw [if_neg c]
        refine .inr ⟨rfl, fun f hf => ?_⟩
        rcases List.mem_cons.mp hf with z | z
        · rw [z]; exact fun y => c y.symm
        · exact no f z
theorem modes_ext {a b : List Int} (hl : a.length = b.length) (h : ∀ j : Int, 0 ≤ j → j < a.length → modeAt a j = modeAt b j) : a = b := by
  refine List.ext_getElem hl fun i h1 h2 => ?_
  have := h ((i : Nat) : Int) (by omega) (by omega)
  unfold modeAt at this
  rw [show ((i : Nat) : Int).toNat = i by omega, List.getD_eq_getElem?_getD, List.getD_eq_getElem?_getD, List.getElem?_eq_getElem h1, List.getElem?_eq_getElem h2] at this
  exact this
/-- the way back, in some order of all sites -/
def backI (ms now ord : List Int) : List (Int × Int) := ord.filterMap fun s => if modeAt now s = modeAt ms s then none else some (s, modeAt ms s)
theorem back_all {ms now ord : List Int} (hl : now.length = ms.length) (ho : ∀ s ∈ ord, 0 ≤ s ∧ s < ms.length) (all : ∀ s : Int, 0 ≤ s → s < ms.length → s ∈ ord) : setAll now (backI ms now ord) = ms := by
  have mem : ∀ e ∈ backI ms now ord, e.1 ∈ ord ∧ modeAt now e.1 ≠ modeAt ms e.1 ∧ e.2 = modeAt ms e.1 := fun e he => by
    unfold backI at he
    obtain ⟨s, hs, he⟩ := List.mem_filterMap.mp he
    by_cases c : modeAt now s = modeAt ms s
    · rw [if_pos c] at he; cases he
    · rw [if_neg c] at he
      cases he
      exact ⟨hs, c, rfl⟩
  refine modes_ext (by rw [setAll_len]; exact hl) fun j j0 j1 => ?_
  rw [setAll_len] at j1
  rcases setAll_at (n := ms.length) (ms := ms) (S := backI ms now ord) (now := now) (fun e he => ⟨ho _ (mem e he).1, (mem e he).2.2⟩) hl j j0 with h | ⟨h, no⟩
  · exact h
  · rw [h]
    by_cases c : modeAt now j = modeAt ms j
    · exact c
    · exact absurd rfl (no (j, modeAt ms j) (List.mem_filterMap.mpr ⟨j, all j j0 (by omega), by rw [if_neg c]⟩))
theorem back_in {k : Nat} {ms now ord : List Int} (hm : MsIn k ms) (ho : ∀ s ∈ ord, 0 ≤ s ∧ s < ms.length) : StIn ms.length k (backI ms now ord) := fun e he => by
  unfold backI at he
  obtain ⟨s, hs, he⟩ := List.mem_filterMap.mp he
  by_cases c : modeAt now s = modeAt ms s
  · rw [if_pos c] at he; cases he
  · rw [if_neg c] at he
    cases he
    exact ⟨ho s hs, hm.at (ho s hs).1 (ho s hs).2⟩
def spBack : L2.Sp := fun vs H Q _ => ∃ (p q a : Addr) (k : Nat) (ms : List Int), vs = [.ref p, .int (k : Nat), .ref a] ∧ Deal H p q ∧ a ≠ p ∧ a ≠ q ∧ H a = some (.lst (ms.map V.int)) ∧ 1 ≤ k ∧ k ≤ 4 ∧ MsIn k ms ∧ 0 < ms.length ∧ ms.length < 10 ∧
  ∀ H' s S, Deal H' p q → Fix p q H H' → H s = none → PrL H' s S → StIn ms.length k S → S.length < 1000 → (∀ W L, (gainsF W L ms S).2 = ms) → Q (.ref s) H'
section
variable {P : Program} {w : World} {K : PySem.W.Frag} {mg : Str → Option Value} {base : Heap} (T : TX K mg)
theorem G__law_back : FnOk P w K mg base CX0 2 T.f__law_back T.d__law_back ["deal", "kinds", "modes"] spBack := by
  refine T.F__law_back.ok sc__law_back (fun vs H Q E h => ?_) fun cdv A outer s H vs Q E hr h => ⟨_, (pss_cons (ps_asg (pe_tup (pa_cons (pe_lst pa_nil) (pa_cons (pe_callTy (cr_listK (K := K)) (by rfl) T.n_list (by decide +kernel) (by exact (pa_cons (pv 2) pa_nil))) pa_nil))) (pg_tupK (K := K) (n := 2) (by rfl) (pgs_cons (pg_name (i := 3) sc__law_back.nd rfl (.inl rfl)) (pgs_cons (pg_name (i := 4) sc__law_back.nd rfl (.inr rfl)) pgs_nil)))) (pss_cons (ps_for PassesOwn.never rfl (pi_range1 (by rfl) T.n_range (by exact (pa_cons (pe_call (G__law_any T) (hr.mono (by decide)) (by rfl) T.m__law_any T.F__law_any.kp T.b__law_any .nil pass0 (by exact (pa_cons (pv 0) (pa_cons pe_int pa_nil)))) pa_nil))) (pg_name (i := 5) sc__law_back.nd rfl (.inl rfl)) (pss_cons (ps_par (i := 6) (j := 7) (by rfl) sc__law_back.nd rfl rfl (by decide) rfl rfl (pa_cons (pe_call (G__law_any T) (hr.mono (by decide)) (by rfl) T.m__law_any T.F__law_any.kp T.b__law_any .nil pass0 (by exact (pa_cons (pv 0) (pa_cons (pe_callB (cr_lenK (K := K)) (by rfl) T.n_len (by decide +kernel) (by exact (pa_cons (pv 2) pa_nil))) pa_nil)))) (pa_cons (pe_call (G__law_any T) (hr.mono (by decide)) (by rfl) T.m__law_any T.F__law_any.kp T.b__law_any .nil pass0 (by exact (pa_cons (pv 0) (pa_cons (pv 1) pa_nil)))) pa_nil)) (by rfl)) (pss_one (ps_if (pt_cmpR op_ne (pv 7) (pe_ix (ix_listK (K := K)) (pv 4) (pv 6) (fun _ _ => rfl)) (nomark _)) (pss_cons (ps_expr (pe_bmK (K := K) PySem.F.slot_list_append PySem.F.type_list_append mt_append (pv 3) (by exact (pa_cons (pe_tup (pa_cons (pv 6) (pa_cons (pv 7) pa_nil))) pa_nil)))) (pss_one (ps_set (i := 4) sc__law_back.nd rfl (.inr rfl) (pe_op op_cat (pe_op op_cat (pe_slice (sl_listK (K := K)) (pv 4) po_none (po_some (pv 6))) (pe_lst (pa_cons (pv 7) pa_nil))) (pe_slice (sl_listK (K := K)) (pv 4) (po_some (pe_op op_add (pv 6) pe_int)) po_none))))) pss_nil)))) (pss_cons (ps_par (i := 8) (j := 9) (by rfl) sc__law_back.nd rfl rfl (by decide) rfl rfl (pa_cons (pe_listRg rfl (by rfl) T.n_list (prg_1 (by rfl) T.n_range (pe_callB (cr_lenK (K := K)) (by rfl) T.n_len (by decide +kernel) (by exact (pa_cons (pv 2) pa_nil))))) (pa_cons (pe_call (G__law_any T) (hr.mono (by decide)) (by rfl) T.m__law_any T.F__law_any.kp T.b__law_any .nil pass0 (by exact (pa_cons (pv 0) (pa_cons (pe_callB (cr_lenK (K := K)) (by rfl) T.n_len (by decide +kernel) (by exact (pa_cons (pv 2) pa_nil))) pa_nil)))) pa_nil)) (by rfl)) (pss_cons (ps_set (i := 8) sc__law_back.nd rfl (.inl rfl) (pe_op op_cat (pe_slice (sl_listK (K := K)) (pv 8) (po_some (pv 9)) po_none) (pe_slice (sl_listK (K := K)) (pv 8) po_none (po_some (pv 9))))) (pss_one (ps_ret (pe_op op_cat (pv 3) (by exact (pe_lc (own := [("site", 6)]) (by rfl) sc__law_back.nd (pi_listK (K := K) (pv 8)) (blkOk_by (own := [("site", 6)]) (N := N__law_back) (sc := defScope s__law_back) (by decide +kernel)) (fun _ _ _ _ _ => (pg_name (i := 6) sc__law_back.nd rfl (.inl rfl))) (fun _ _ _ _ _ => pts_one (pt_cmpR op_ne (pe_ix (ix_listK (K := K)) (pv 4) (pv 6) (fun _ _ => rfl)) (pe_ix (ix_listK (K := K)) (pv 2) (pv 6) (fun _ _ => rfl)) (nomark _))) (fun _ _ _ _ _ => (pe_tup (pa_cons (pv 6) (pa_cons (pe_ix (ix_listK (K := K)) (pv 2) (pv 6) (fun _ _ => rfl)) pa_nil)))) ))))))))), ?_⟩
  · obtain ⟨p, q, a, k, ms, rfl, _⟩ := h
    rfl
  · obtain ⟨p, q, a, k, ms, rfl, d, ap, aq, ha, k1, k4, hm, m0, m9, hQ⟩ := h
    walk_at "rd"
    intro sl H1 z1 S1 hsl
    walk_at "rd"
    refine rd_list (.inl (SqL.of (S1 _ _ ha))) ?_
    intro b H2 z2 S2 hb
    walk_at "rd"
    intro tt H3 z3 S3 htt
    refine rd_gtup (Tup.of htt) rfl ?_
    have d3 := ((d.same S1).same S2).same S3
    walk_at "rd"
    refine ⟨p, q, 8, rfl, d3, by decide, by decide, fun H4 nt d4 f4 nt0 nt1 => ?_⟩
    walk_at "rd"
    refine ⟨by omega, by omega, ?_⟩
    have S13 := (S1.trans S2).trans S3
    have f04 : Fix p q H H4 := (Fix.same S13).trans f4
    have slp := d.nes z1
    have bp := (d.same S1).nes z2
    have sb : sl ≠ b := fun z => by rw [← z, hsl] at z2; cases z2
    have sl0 : H sl = none := z1
    have b0 : H b = none := S1.free z2
    have hb4 := f4 _ _ bp.1 bp.2 (S3 _ _ hb)
    have hsl4 := f4 _ _ slp.1 slp.2 ((S2.trans S3) _ _ hsl)
    clear S1 S2 S3 S13 z1 z2 z3 htt hb hsl d3 f4
    refine for_range (lo := 0) (n := nt.toNat) (fun i σ H' => ∃ (b : Addr) (S : List (Int × Int)) (ps : List Addr) (o5 o6 o7 : Option V), σ = [some (.ref p), some (.int (k : Nat)), some (.ref a), some (.ref sl), some (.ref b), o5, o6, o7, none, none] ∧ Deal H' p q ∧ Fix p q H H' ∧
        H b = none ∧ sl ≠ b ∧ H' b = some (.lst ((setAll ms S).map V.int)) ∧ H' sl = some (.lst (ps.map V.ref)) ∧ Paired (PairAt H') ps S ∧ StIn ms.length k S ∧ S.length ≤ i)
      ⟨b, [], [], _, _, _, rfl, d4, f04, b0, sb, hb4, hsl4, .nil, by simp [StIn], Nat.le_refl _⟩ (fun i σ H5 hi pv => ?_) (fun σ H5 pv => ?_)
    · obtain ⟨b, S, ps, o5, o6, o7, rfl, d5, f5, b0, sb, hb5, hsl5, pS, sS, lS⟩ := pv
      have bp := d.nes b0
      have lps := paired_len pS
      have ln := setAll_len S ms
      walk_at "rd"
      refine rd_len (f5 _ _ ap aq ha) ?_
      rw [List.length_map]
      walk_at "rd"
      refine ⟨p, q, ((ms.length : Nat) : Int), rfl, d5, by omega, by omega, fun H6 st d6 f6 s0 s1 => ?_⟩
      walk_at "rd"
      refine ⟨p, q, ((k : Nat) : Int), rfl, d6, by omega, by omega, fun H7 to d7 f7 t0 t1 => ?_⟩
      have f57 := f6.trans f7
      have f07 := f5.trans f57
      have hb7 := f57 _ _ bp.1 bp.2 hb5
      have hsl7 := f57 _ _ slp.1 slp.2 hsl5
      have pS7 : Paired (PairAt H7) ps S := paired_mono pS fun _ _ z => f57.keep d5 z fun _ y => by cases y
      clear hb5 hsl5 pS f5 f6 f7 d6
      walk_at "rd"
      refine rd_ixL hb7 (modeAt_get s0 (by omega)) ?_
      walk_at "rd"
      by_cases c : to = modeAt (setAll ms S) st
      · refine iteF' (nd_t c) ?_
        walk_at "rd"
        exact ⟨b, S, ps, _, _, _, rfl, d7, f07, b0, sb, hb7, hsl7, pS7, sS, by omega⟩
      · refine iteT' (nd_f c) ?_
        walk_at "rd"
        refine rd_ty hsl7 ?_
        walk_at "rd"
        intro u H8 z8 S8 hu
        have hsl8 := S8 _ _ hsl7
        walk_at "rd"
        refine rd_app hsl8 (by rw [List.length_map]; omega) ?_
        have hb9 : upd H8 sl (.lst (ps.map V.ref ++ [V.ref u])) b = some (.lst ((setAll ms S).map V.int)) := by rw [upd_ne (fun z => sb z.symm)]; exact S8 _ _ hb7
        have hsl9 : upd H8 sl (.lst (ps.map V.ref ++ [V.ref u])) sl = some (.lst ((ps ++ [u]).map V.ref)) := by rw [upd_same]; simp
        have p9 : Paired (PairAt (upd H8 sl (.lst (ps.map V.ref ++ [V.ref u])))) (ps ++ [u]) (S ++ [(st, to)]) := pairs_upd (pairs_snoc (pairs_same pS7 S8) hu) hsl8
        have d9 : Deal (upd H8 sl (.lst (ps.map V.ref ++ [V.ref u]))) p q := (d7.same S8).off slp.1 slp.2
        have f9 : Fix p q H (upd H8 sl (.lst (ps.map V.ref ++ [V.ref u]))) := (f07.trans (Fix.same S8)).upd sl0
        generalize upd H8 sl (.lst (ps.map V.ref ++ [V.ref u])) = H9 at hb9 hsl9 p9 d9 f9 ⊢
        walk_at "rd"
        refine rd_slL hb9 ?_
        rw [cut_take _ s0 (by rw [List.length_map]; omega), ← List.map_take]
        intro b1 H10 z10 S10 hb1
        walk_at "rd"
        intro b2 H11 z11 S11 hb2
        refine rd_cat (S11 _ _ hb1) hb2 (by rw [List.length_map, List.length_take]; show _ + 1 ≤ _; omega) ?_
        intro b3 H12 z12 S12 hb3
        walk_at "rd"
        have S912 := (S10.trans S11).trans S12
        refine rd_slL (S912 _ _ hb9) ?_
        rw [cut_drop _ (by omega) (by rw [List.length_map]; omega), ← List.map_drop]
        intro b4 H13 z13 S13 hb4
        refine rd_cat (S13 _ _ hb3) hb4 (by simp; omega) ?_
        intro b5 H14 z14 S14 hb5
        have es1 : (st + 1).toNat = st.toNat + 1 := by omega
        have e5 : ((setAll ms S).take st.toNat).map V.int ++ [V.int to] ++ ((setAll ms S).drop (st + 1).toNat).map V.int = (setAll ms (S ++ [(st, to)])).map V.int := by
          rw [es1, setAll_snoc]
          unfold setM
          rw [← cut_set (setAll ms S) to (by omega : st.toNat < (setAll ms S).length)]
          simp
        rw [e5] at hb5
        have S9 := (S912.trans S13).trans S14
        walk_at "rd"
        refine ⟨b5, S ++ [(st, to)], ps ++ [u], _, _, _, rfl, d9.same S9, f9.trans (Fix.same S9), f9.free d9 ((S912.trans S13).free z14), fun z => ?_, hb5, S9 _ _ hsl9, pairs_same p9 S9, fun e he => ?_, by rw [List.length_append]; exact Nat.add_le_add_right lS 1⟩
        · have := (S912.trans S13) _ _ hsl9
          rw [z, z14] at this
          cases this
        · rcases List.mem_append.mp he with z | z
          · exact sS e z
          · rw [List.mem_singleton.mp z]
            exact ⟨⟨s0, s1⟩, t0, t1⟩
    · obtain ⟨b, S, ps, o5, o6, o7, rfl, d5, f5, b0, sb, hb5, hsl5, pS, sS, lS⟩ := pv
      have bp := d.nes b0
      have ln := setAll_len S ms
      walk_at "rd"
      refine rd_lstRg ?_
      walk_at "rd"
      refine rd_len (f5 _ _ ap aq ha) ?_
      rw [List.length_map]
      refine ⟨((ms.length : Nat) : Int), rfl, RgOk.of_le (by omega) (by omega) (by omega) (by omega), fun o z6 => ?_⟩
      rw [rg_ints]
      have S6 : Same H5 (upd H5 o (.lst ((rangeI ms.length).map V.int))) := Same.fresh z6
      have ho : upd H5 o (.lst ((rangeI ms.length).map V.int)) o = some (.lst ((rangeI ms.length).map V.int)) := upd_same
      generalize upd H5 o (.lst ((rangeI ms.length).map V.int)) = H6 at S6 ho ⊢
      have op := d5.nes z6
      walk_at "rd"
      refine rd_len (S6 _ _ (f5 _ _ ap aq ha)) ?_
      rw [List.length_map]
      walk_at "rd"
      refine ⟨p, q, ((ms.length : Nat) : Int), rfl, d5.same S6, by omega, by omega, fun H7 st d7 f7 s0 s1 => ?_⟩
      have f57 := (Fix.same (p := p) (q := q) S6).trans f7
      have f07 := f5.trans f57
      have hb7 := f57 _ _ bp.1 bp.2 hb5
      have hsl7 := f57 _ _ slp.1 slp.2 hsl5
      have pS7 : Paired (PairAt H7) ps S := paired_mono pS fun _ _ z => f57.keep d5 z fun _ y => by cases y
      have ho7 := f7 _ _ op.1 op.2 ho
      have ha7 := f07 _ _ ap aq ha
      clear hb5 hsl5 pS f7 d5 S6 ho z6 ha
      have lr : (rangeI ms.length).length = ms.length := by unfold rangeI; simp
      walk_at "rd"
      refine rd_slL ho7 ?_
      rw [cut_drop _ s0 (by rw [List.length_map]; omega), ← List.map_drop]
      intro o1 H8 z8 S8 ho1
      walk_at "rd"
      refine rd_slL (S8 _ _ ho7) ?_
      rw [cut_take _ s0 (by rw [List.length_map]; omega), ← List.map_take]
      intro o2 H9 z9 S9 ho2
      refine rd_cat (S9 _ _ ho1) ho2 (by simp; omega) ?_
      rw [← List.map_append]
      intro o3 H10 z10 S10 ho3
      have or1 : ∀ s ∈ (rangeI ms.length).drop st.toNat ++ (rangeI ms.length).take st.toNat, 0 ≤ s ∧ s < ms.length := fun s hs => by
        rcases List.mem_append.mp hs with z | z
        · exact mem_rangeI.mp (List.mem_of_mem_drop z)
        · exact mem_rangeI.mp (List.mem_of_mem_take z)
      have or2 : ∀ s : Int, 0 ≤ s → s < ms.length → s ∈ (rangeI ms.length).drop st.toNat ++ (rangeI ms.length).take st.toNat := fun s h0 h1 => by
        have := mem_rangeI.mpr (show Lt ms.length s from ⟨h0, h1⟩)
        rw [← List.take_append_drop st.toNat (rangeI ms.length)] at this
        rcases List.mem_append.mp this with z | z
        · exact List.mem_append_right _ z
        · exact List.mem_append_left _ z
      have lo : ((rangeI ms.length).drop st.toNat ++ (rangeI ms.length).take st.toNat).length ≤ 20 := by
        rw [List.length_append, List.length_drop, List.length_take]
        omega
      generalize (rangeI ms.length).drop st.toNat ++ (rangeI ms.length).take st.toNat = ord at ho3 or1 or2 lo
      have S710 := (S8.trans S9).trans S10
      have hb10 := S710 _ _ hb7
      have hsl10 := S710 _ _ hsl7
      have ha10 := S710 _ _ ha7
      have pS10 := pairs_same pS7 S710
      have d10 := d7.same S710
      have f10 := f07.trans (Fix.same S710)
      clear hb7 hsl7 ha7 pS7 ho1 ho2 ho7 S8 S9 S10 S710 d7 f07 f57 f5 op z8 z9 z10
      walk_at "rd"
      refine ⟨o3, rfl, ⟨_, SqL.of ho3⟩, fun D hD => ?_⟩
      have stp : ∀ (i : Nat) (s : Int), ord[i]? = some s → backI ms (setAll ms S) (ord.take (i + 1)) = backI ms (setAll ms S) (ord.take i) ++ (if modeAt (setAll ms S) s = modeAt ms s then [] else [(s, modeAt ms s)]) := fun i s hs => by
        unfold backI
        rw [List.take_succ, hs, List.filterMap_append]
        congr 1
        by_cases c : modeAt (setAll ms S) s = modeAt ms s <;> simp [c]
      refine lc_list (xs := ord.map V.int) (fun i H' => Same H10 H' ∧ ∃ us : List Addr, H' D = some (.lst (us.map V.ref)) ∧ Paired (PairAt H') us (backI ms (setAll ms S) (ord.take i)) ∧ us.length ≤ i)
        ⟨Same.fresh hD, [], upd_same, .nil, Nat.le_refl _⟩ (fun i H' _ pv => SqL.of (pv.1 _ _ ho3)) (fun i x H11 hx pv => ?_) (fun H11 pv => ?_)
      · obtain ⟨S11, us, hus, pu, lu⟩ := pv
        rw [List.getElem?_map] at hx
        obtain ⟨s, hs, rfl⟩ := Option.map_eq_some_iff.mp hx
        obtain ⟨s0', s1'⟩ := or1 s (List.mem_of_getElem? hs)
        have li := (List.getElem?_eq_some_iff.mp hs).1
        walk_at "rd"
        refine ⟨rfl, ?_⟩
        walk_at "rd"
        refine rd_ixL (S11 _ _ hb10) (modeAt_get s0' (by omega)) ?_
        walk_at "rd"
        refine rd_ixL (S11 _ _ ha10) (modeAt_get s0' (by omega)) ?_
        walk_at "rd"
        have es := stp i s hs
        by_cases c : modeAt (setAll ms S) s = modeAt ms s
        · refine iteF' (nd_t c) ?_
          rw [if_pos c, List.append_nil] at es
          exact ⟨S11, us, hus, by rw [es]; exact pu, by omega⟩
        · refine iteT' (nd_f c) ?_
          rw [if_neg c] at es
          walk_at "rd"
          refine rd_ixL (S11 _ _ ha10) (modeAt_get s0' (by omega)) ?_
          walk_at "rd"
          intro u H12 z12 S12 hu
          have hus12 := S12 _ _ hus
          refine ⟨_, hus12, ?_, same_put (S11.trans S12) hD, us ++ [u], by rw [upd_same]; simp, ?_, by rw [List.length_append]; exact Nat.add_le_add_right lu 1⟩
          · rw [List.length_map]
            exact Nat.lt_of_le_of_lt (by omega : us.length ≤ 1000) (by decide)
          · rw [es]
            exact pairs_upd (pairs_snoc (pairs_same pu S12) hu) hus12
      · obtain ⟨S11, us, hus, pu, lu⟩ := pv
        rw [List.length_map, List.take_of_length_le (Nat.le_refl _)] at pu
        rw [List.length_map] at lu
        have lps := paired_len pS10
        have lus := paired_len pu
        refine rd_cat (S11 _ _ hsl10) hus (by rw [List.length_map, List.length_map]; omega) ?_
        rw [← List.map_append]
        intro r H12 z12 S12 hr12
        have S1012 := S11.trans S12
        refine hQ H12 r (S ++ backI ms (setAll ms S) ord) (d10.same S1012) (f10.trans (Fix.same S1012)) (f10.free d10 (S11.free z12)) ⟨ps ++ us, hr12, paired_append (pairs_same pS10 S1012) (pairs_same pu S12)⟩ (fun e he => ?_) (by rw [List.length_append]; omega) (fun W L => ?_)
        · rcases List.mem_append.mp he with z | z
          · exact sS e z
          · exact back_in hm or1 e z
        · unfold gainsF
          rw [gains_set, setAll_app]
          exact back_all ln or1 or2
end
end K69

namespace K69
open PySem PySem.Spec PyProof.Rows L2 KX
local macro_rules | `(tactic| walk_at "rd1") => `(tactic| first
  | with_reducible refine rd_seq ?_
  | with_reducible refine rd_for ?_
  | with_reducible refine rd_lc ?_
  | with_reducible refine rd_asg ?_
  | ((with_reducible refine' rd_var ?rdv ?_); (case rdv => exact rfl))
  | with_reducible refine rd_c ?_
  | with_reducible refine rd_op ?_
  | with_reducible refine rd_un ?_
  | with_reducible refine rd_cons ?_
  | with_reducible refine rd_nil ?_
  | with_reducible refine rd_call ?_
  | with_reducible refine rd_cb ?_
  | with_reducible refine rd_tB ?_
  | with_reducible refine rd_test ?_
  | with_reducible refine rd_bl ?_
  | with_reducible refine rd_rI0 ?_
  | with_reducible refine rd_eqI ?_
  | with_reducible refine rd_neI ?_
  | with_reducible refine rd_rU ?_
  | with_reducible refine rd_name ?_
  | with_reducible refine rd_ifs ?_
  | with_reducible refine rd_and ?_
  | with_reducible refine rd_or ?_
  | with_reducible refine rd_not ?_
  | with_reducible refine rd_yes ?_
  | with_reducible refine rd_andV ?_
  | with_reducible refine rd_orV ?_
  | with_reducible refine rd_notV ?_
  | with_reducible refine rd_if ?_
  | with_reducible refine rd_isN ?_
  | with_reducible refine rd_iT ?_
  | with_reducible refine rd_iF ?_
  | with_reducible refine rd_ret ?_
  | with_reducible refine rd_retN ?_
  | with_reducible refine rd_drop ?_
  | with_reducible refine rd_next ?_
  | with_reducible refine rd_cont ?_
  | with_reducible refine rd_brk ?_
  | with_reducible refine rd_nx ?_
  | with_reducible refine rd_rt ?_
  | with_reducible refine rd_ct ?_
  | with_reducible refine rd_bk ?_
  | with_reducible refine rd_par ?_
  | with_reducible refine rd_par3 ?_
  | with_reducible refine rd_par2 ?_
  | with_reducible refine rd_par33 ?_
  | with_reducible refine rd_gcons ?_
  | with_reducible refine rd_gnil ?_
  | with_reducible refine rd_sub ?_
  | with_reducible refine rd_tup ?_
  | with_reducible refine rd_lst ?_
  | ((with_reducible refine rd_tupT ?hl ?_); (case hl => exact Nat.le_of_ble_eq_true rfl))
  | ((with_reducible refine rd_lstT ?hl ?_); (case hl => exact Nat.le_of_ble_eq_true rfl))
  | with_reducible refine rd_bm ?_
  | with_reducible refine rd_bm0 ?_
  | with_reducible refine rd_sl ?_
  | with_reducible refine rd_noP ?_
  | with_reducible refine rd_part ?_
  | with_reducible refine rd_int ?_
  | with_reducible refine rd_int1 ?_
  | with_reducible refine rd_fld ?_
  | with_reducible refine rd_then ?_
  | with_reducible refine rd_raise ?_
  | with_reducible refine rd_one ?_
  | with_reducible refine rd_sfld ?_
  | with_reducible refine rd_ilist ?_
  | with_reducible refine rd_itup ?_
  | with_reducible refine rd_rng1 ?_
  | with_reducible refine rd_enum ?_
  | with_reducible refine rd_enumT ?_)
local macro_rules | `(tactic| walk_at "rd") => `(tactic| repeat (walk_at "rd1"))
theorem kb_is_exact {K : PySem.W.Frag} {mg : Str → Option Value} (T : TX K mg) : KBn K T.d_is_exact ["table", "value"] 0 ["value", "table"] (fun _ ws => match ws with | [v0, v1] => [v1, v0] | ws => ws) (fun _ ws => match ws with | [v0, v1] => [v1, v0] | ws => ws) := by
  obtain ⟨oc, od, kV, doc, pm, an, cdv, ct, osl, e, lk, hcd⟩ := T.F_is_exact.ex
  rw [e]
  refine ⟨fun s us ws _ h0 h2 => ?_, fun {vs us zs ws} _ r => ?_⟩
  · match us, ws, h0, h2 with
    | [], [v0, v1], _, _ => exact .of_eq rfl
  · exact match r with
      | .nil => .nil
      | .cons a0 (.nil) => .cons a0 (.nil)
      | .cons a0 (.cons a1 (.nil)) => .cons a1 (.cons a0 (.nil))
      | .cons a0 (.cons a1 (.cons a2 (r))) => .cons a0 (.cons a1 (.cons a2 (r)))
structure Rep (d : PyData) : Prop where
  s : d.showable = true
  n : d.hasDict = false
  h : d.depth ≤ 64
  l : d.shown.length ≤ sizeLine
theorem rd_callK {m : Nat} {sp : L2.Sp} {gV : List V → List V → List V} {E : XK} {tk : TA} {σ : L2.St} {H : Hp} {Q : VK} (h : tk σ H fun zs H2 => zs.length = m ∧ sp (gV [] zs) H2 Q E) : KX.tCallK m sp gV E tk σ H Q := h
theorem rep_bool (b : Bool) : Rep (.bool b) := by cases b <;> exact ⟨rfl, rfl, by decide, by decide⟩
theorem right_eq {k : Nat} {W M : List (List Int)} : (evenB k M && movB k W M) = folB k W M := by
  rw [Bool.eq_iff_iff, Bool.and_eq_true]
  unfold evenB movB mov1 folB
  simp only [List.all_eq_true, List.mem_range, Bool.and_eq_true, decide_eq_true_iff]
  constructor
  · rintro ⟨h1, h2⟩ a ha b hb
    refine ⟨?_, h2 b hb a ha⟩
    by_cases c : b < a
    · exact h1 a ha b c
    · by_cases e : a = b
      · rw [e]
      · exact (h1 b hb a (by omega)).symm
  · intro h
    exact ⟨fun a ha b hb => (h a ha b (by omega)).1, fun b hb c hc => (h c hc b hb).2⟩
inductive TdIs (H : Hp) (k : Nat) (r : Addr) : Prop
  | wts {u : Addr} {M : List (List Int)} (h : Tup H r [.str "weights", .ref u]) (tb : TabAt H u M) (g : Tk k M) : TdIs H k r
  | rnd {f : Addr} (h : Tup H r [.str "round", .ref f]) : TdIs H k r
def spBent : L2.Sp := fun vs H Q _ => ∃ (p q t r : Addr) (k : Nat) (W : List (List Int)), vs = [.ref p, .ref t, .ref r] ∧ Deal H p q ∧ TabAt H t W ∧ Tk k W ∧ TdIs H k r ∧ ∀ H', Deal H' p q → Fix p q H H' → Q (.bl true) H'
section
variable {P : Program} {w : World} {K : PySem.W.Frag} {mg : Str → Option Value} {base : Heap} (T : TX K mg)
theorem G__law_bent_right : FnR P w K mg base CX0 (CG 12) T.f__law_bent_right T.d__law_bent_right ["deal", "table", "told"] spBent := by
  obtain ⟨oc, od, kV, doc, pm, an, cdv, ct, osl, eF, lk, hcd⟩ := T.F__law_bent_right.ex
  rw [eF] at lk
  rw [eF]
  refine fnG_of lk hcd sc__law_bent_right (fun vs H Q E h => ?_) fun A outer s H vs Q E hr hg h => ?_
  · obtain ⟨p, q, t, r, k, W, rfl, _⟩ := h
    rfl
  have hu : (A.deeper (envOfC "_law_bent_right" (defScope s__law_bent_right) s.heap.objs.size T.f__law_bent_right cdv)).units + 66 < cLine := by
    have := hr.un
    omega
  refine ⟨_, PSs.nox (pss_cons (ps_set (i := 3) sc__law_bent_right.nd rfl (.inr rfl) (pe_callB (cr_lenK (K := K)) (by rfl) T.n_len (by decide +kernel) (by exact (pa_cons (pv 1) pa_nil)))) (pss_cons (ps_if (pt_cmpR op_eq (pe_ix (ix_tupK (K := K)) (pv 2) pe_int (fun _ _ => rfl)) pe_str (nomark _)) (pss_cons (ps_par3 (i := 4) (j := 5) (l := 6) (by rfl) sc__law_bent_right.nd rfl rfl rfl (by decide) (by decide) (by decide) rfl rfl rfl (pa_cons (pe_ix (ix_tupK (K := K)) (pv 2) pe_int (fun _ _ => rfl)) (pa_cons (pe_call (G__law_any T) (hr.mono (by decide)) (by rfl) T.m__law_any T.F__law_any.kp T.b__law_any .nil pass0 (by exact (pa_cons (pv 0) (pa_cons (pv 3) pa_nil)))) (pa_cons (pe_call (G__law_any T) (hr.mono (by decide)) (by rfl) T.m__law_any T.F__law_any.kp T.b__law_any .nil pass0 (by exact (pa_cons (pv 0) (pa_cons pe_int pa_nil)))) pa_nil))) (by rfl)) (pss_cons (ps_set (i := 7) sc__law_bent_right.nd rfl (.inl rfl) (pe_callTy (cr_listK (K := K)) (by rfl) T.n_list (by decide +kernel) (by exact (pa_cons (pe_ix (ix_tupK (K := K)) (pv 4) (pv 5) (fun _ _ => rfl)) pa_nil)))) (pss_cons (ps_augS (pv 7) (pe_call (G__law_any T) (hr.mono (by decide)) (by rfl) T.m__law_any T.F__law_any.kp T.b__law_any .nil pass0 (by exact (pa_cons (pv 0) (pa_cons (pv 3) pa_nil)))) (get_listK (K := K)) (pe_op op_sub (pe_call (G__law_any T) (hr.mono (by decide)) (by rfl) T.m__law_any T.F__law_any.kp T.b__law_any .nil pass0 (by exact (pa_cons (pv 0) (pa_cons pe_int pa_nil)))) pe_int) ip_add set_list) (pss_cons (ps_set (i := 8) sc__law_bent_right.nd rfl (.inl rfl) (pe_op op_catW (pe_op op_catW (pe_slice sl_tupW (pv 4) po_none (po_some (pv 5))) (pe_tup (pa_cons (pe_tupleK (K := K) (by rfl) T.n_tuple (pv 7)) pa_nil))) (pe_slice sl_tupW (pv 4) (po_some (pe_op op_add (pv 5) pe_int)) po_none))) (pss_cons (ps_if (pt_cmpR op_eq (pv 6) pe_int (nomark _)) (pss_one (ps_set (i := 8) sc__law_bent_right.nd rfl (.inl rfl) (pe_tupleK (K := K) (by rfl) T.n_tuple (by exact (pe_lc (own := [("row", 10)]) (by rfl) sc__law_bent_right.nd (pi_tupK (K := K) (pv 4)) (blkOk_by (own := [("row", 10)]) (N := N__law_bent_right) (sc := defScope s__law_bent_right) (by decide +kernel)) (fun _ _ _ _ _ => (pg_name (i := 10) sc__law_bent_right.nd rfl (.inl rfl))) (fun _ _ _ _ _ => pts_nil) (fun _ _ _ _ _ => (pe_tupleK (K := K) (by rfl) T.n_tuple (by exact (pe_lc (own := [("one", 11)]) (by rfl) sc__law_bent_right.nd (pi_tupK (K := K) (pv 10)) (blkOk_by (own := [("one", 11)]) (N := N__law_bent_right) (sc := ({ kind := PySem.ScopeKind.function, names := [(PySem.Str.ofString ".0", PySem.NameKind.local), (PySem.Str.ofString "row", PySem.NameKind.local), (PySem.Str.ofString "tuple", PySem.NameKind.globalImplicit)], isGenerator := false, isCoroutine := false, more := [] } : PySem.Scope)) (by decide +kernel)) (fun _ _ _ _ _ => (pg_name (i := 11) sc__law_bent_right.nd rfl (.inl rfl))) (fun _ _ _ _ _ => pts_nil) (fun _ _ _ _ _ => (pe_op op_add (pv 11) pe_int)) )))) ))))) (pss_one (ps_if (pt_cmpR op_eq (pv 6) pe_int (nomark _)) (pss_one (ps_set (i := 8) sc__law_bent_right.nd rfl (.inl rfl) (pe_tupleK (K := K) (by rfl) T.n_tuple (by exact (pe_lc (own := [("row", 10)]) (by rfl) sc__law_bent_right.nd (pi_tupK (K := K) (pv 4)) (blkOk_by (own := [("row", 10)]) (N := N__law_bent_right) (sc := defScope s__law_bent_right) (by decide +kernel)) (fun _ _ _ _ _ => (pg_name (i := 10) sc__law_bent_right.nd rfl (.inl rfl))) (fun _ _ _ _ _ => pts_nil) (fun _ _ _ _ _ => (pe_tupleK (K := K) (by rfl) T.n_tuple (by exact (pe_lc (own := [("one", 11)]) (by rfl) sc__law_bent_right.nd (pi_tupK (K := K) (pv 10)) (blkOk_by (own := [("one", 11)]) (N := N__law_bent_right) (sc := ({ kind := PySem.ScopeKind.function, names := [(PySem.Str.ofString ".0", PySem.NameKind.local), (PySem.Str.ofString "row", PySem.NameKind.local), (PySem.Str.ofString "tuple", PySem.NameKind.globalImplicit)], isGenerator := false, isCoroutine := false, more := [] } : PySem.Scope)) (by decide +kernel)) (fun _ _ _ _ _ => (pg_name (i := 11) sc__law_bent_right.nd rfl (.inl rfl))) (fun _ _ _ _ _ => pts_nil) (fun _ _ _ _ _ => (pe_op op_sub pe_int (pv 11))) )))) ))))) pss_nil))) (pss_one (ps_ret (pe_cmpR op_eq (pe_callB (cr_reprK (K := K) hg hu) (by rfl) T.n_repr (by decide +kernel) (by exact (pa_cons (pe_call (G_is_exact T) (hr.mono (by decide)) (by rfl) T.m_is_exact T.F_is_exact.kp T.b_is_exact .nil pass0 (by exact (pa_cons (pv 1) (pa_cons (pe_tup (pa_cons pe_str (pa_cons (pv 8) pa_nil))) pa_nil)))) pa_nil))) (pe_callB (cr_reprK (K := K) hg hu) (by rfl) T.n_repr (by decide +kernel) (by exact (pa_cons (pe_call (G__law_follows T) (hr.mono (by decide)) (by rfl) T.m__law_follows T.F__law_follows.kp T.b__law_follows .nil pass0 (by exact (pa_cons (pv 1) (pa_cons (pv 8) pa_nil)))) pa_nil))) (nomark _))))))))) pss_nil) (pss_cons (ps_set (i := 9) sc__law_bent_right.nd rfl (.inl rfl) (pe_tupleK (K := K) (by rfl) T.n_tuple (by exact (pe_lc (own := [("place", 12)]) (by rfl) sc__law_bent_right.nd (pi_range1 (by rfl) T.n_range (by exact (pa_cons pe_int pa_nil))) (blkOk_by (own := [("place", 12)]) (N := N__law_bent_right) (sc := defScope s__law_bent_right) (by decide +kernel)) (fun _ _ _ _ _ => (pg_name (i := 12) sc__law_bent_right.nd rfl (.inl rfl))) (fun _ _ _ _ _ => pts_nil) (fun _ _ _ _ _ => (pe_call (G__law_any T) (hr.mono (by decide)) (by rfl) T.m__law_any T.F__law_any.kp T.b__law_any .nil pass0 (by exact (pa_cons (pv 0) (pa_cons (pv 3) pa_nil))))) )))) (pss_one (ps_ret (pe_cmpR op_eq (pe_callB (cr_reprK (K := K) hg hu) (by rfl) T.n_repr (by decide +kernel) (by exact (pa_cons (pe_callK (G_is_exact T) (hr.mono (by decide)) (by rfl) T.m_is_exact T.F_is_exact.kp (kb_is_exact T) pass0 (by exact (pk_cons (pe_tup (pa_cons pe_str (pa_cons (pv 9) pa_nil))) (pk_cons (pv 1) pk_nil)))) pa_nil))) (pe_callB (cr_reprK (K := K) hg hu) (by rfl) T.n_repr (by decide +kernel) (by exact (pa_cons (pe_cmpR op_ne (pe_call (G__law_around T) (hr.mono (by decide)) (by rfl) T.m__law_around T.F__law_around.kp T.b__law_around .nil pass0 (by exact (pa_cons (pv 1) (pa_cons (pv 9) pa_nil)))) pe_int (nomark _)) pa_nil))) (nomark _))))))), ?_⟩
  clear hu
  obtain ⟨p, q, t, r, k, W, rfl, d, hw, g, td, hQ⟩ := h
  have k1 := g.k1
  have k4 := g.k4
  obtain ⟨qs, hq, hp⟩ := id hw
  have lq := paired_len hp
  walk_at "rd"
  refine rd_lenTup hq ?_
  walk_at "rd"
  rw [List.length_map, lq, g.l]
  clear hp hq lq
  cases td with
  | @wts u M h tb gm =>
    obtain ⟨us, hu, hpu⟩ := id tb
    have hpl := paired_len hpu
    refine rd_ixT h rfl ?_
    walk_at "rd"
    refine rd_eqS ?_
    rw [decide_eq_true rfl]
    walk_at "rd"
    try with_reducible refine iteT' rfl ?_
    walk_at "rd"
    refine rd_ixT h rfl ?_
    walk_at "rd"
    refine ⟨p, q, ((k : Nat) : Int), rfl, d, by omega, by omega, fun H1 i d1 f1 i0 i1 => ?_⟩
    walk_at "rd"
    refine ⟨p, q, 3, rfl, d1, by decide, by decide, fun H2 fm d2 f2 fm0 fm1 => ?_⟩
    have f02 := f1.trans f2
    have K02 := Kept.fix f02 d d2
    have tb2 := tb.kept K02
    have hw2 := hw.kept K02
    have lM := gm.l
    clear h K02 f1 f2 d1
    walk_at "rd"
    refine rd_at2 tb2 i0 (by rw [gm.l]; exact i1) fun r1 hr1 => ?_
    walk_at "rd"
    refine rd_list (.inr hr1.sq) ?_
    intro rl H3 z3 S3 hrl
    have d3 := d2.same S3
    have nrl := d2.nes z3
    have rl0 : H rl = none := f02.free d2 z3
    walk_at "rd"
    refine rd_augS ?_
    walk_at "rd"
    refine ⟨p, q, ((k : Nat) : Int), rfl, d3, by omega, by omega, fun H4 c d4 f4 c0 c1 => ?_⟩
    have lr := gm.row i0 i1
    walk_at "rd"
    refine rd_getL (f4 _ _ nrl.1 nrl.2 hrl) c0 (modeAt_nth c0 (by omega)) ?_
    walk_at "rd"
    refine ⟨p, q, 3, rfl, d4, by decide, by decide, fun H5 y d5 f5 y0 y1 => ?_⟩
    walk_at "rd"
    refine rd_ip ?_
    have hrl5 := f5 _ _ nrl.1 nrl.2 (f4 _ _ nrl.1 nrl.2 hrl)
    refine rd_setL hrl5 c0 (by rw [List.length_map]; omega) ?_
    have es : ((rowOf M i).map V.int).set c.toNat (.int (modeAt (rowOf M i) c + (y - 1))) = (setM (rowOf M i) c (modeAt (rowOf M i) c + (y - 1))).map V.int := (List.map_set ..).symm
    rw [es]
    have f05 := (f02.trans (Fix.same S3)).trans (f4.trans f5)
    obtain ⟨nrow, en⟩ : ∃ nrow, setM (rowOf M i) c (modeAt (rowOf M i) c + (y - 1)) = nrow := ⟨_, rfl⟩
    have ln : nrow.length = k := by rw [← en, setM_len]; exact lr
    rw [en]
    have d6 : Deal (upd H5 rl (.lst (nrow.map V.int))) p q := d5.off nrl.1 nrl.2
    have f06 : Fix p q H (upd H5 rl (.lst (nrow.map V.int))) := f05.upd rl0
    have K26 : Kept H2 (upd H5 rl (.lst (nrow.map V.int))) := (Kept.same S3).trans ((Kept.fix (f4.trans f5) d3 d5).trans (Kept.upd hrl5))
    have hrl6 : upd H5 rl (.lst (nrow.map V.int)) rl = some (.lst (nrow.map V.int)) := upd_same
    generalize upd H5 rl (.lst (nrow.map V.int)) = H6 at d6 f06 K26 hrl6 ⊢
    have hw6 := hw2.kept K26
    have tb6 := tb2.kept K26
    clear es en f05 hrl5 f5 d5 f4 d4 hrl hr1 S3 z3 d3 K26 tb2 hw2 f02 d2 rl0 nrl hu hpu hpl tb us d hw lr
    obtain ⟨us, hu, hpu⟩ := id tb6
    have hpl := paired_len hpu
    walk_at "rd"
    refine rd_slW hu fun H1 a1 S1 h1 => ?_
    rw [cut_take _ i0 (by rw [List.length_map, hpl, lM]; omega)] at h1
    walk_at "rd"
    refine rd_tupL (S1 _ _ hrl6) ?_
    intro a2 H2 z2 S2 h2
    walk_at "rd"
    intro a3 H3 z3 S3 h3
    refine rd_catW ((h1.same S2).same S3) (Tup.of h3) (by rw [List.length_take, List.length_map]; show _ + 1 ≤ _; omega) fun H4 a4 S4 h4 => ?_
    walk_at "rd"
    have S14 := ((S1.trans S2).trans S3).trans S4
    refine rd_slW (hu.same S14) fun H5 a5 S5 h5 => ?_
    rw [cut_drop _ (by omega) (by rw [List.length_map, hpl, lM]; omega), show (i + 1).toNat = i.toNat + 1 by omega] at h5
    refine rd_catW (h4.same S5) h5 (by simp; omega) fun H9 a6 S6 h6 => ?_
    rw [cut_set _ _ (by rw [List.length_map, hpl, lM]; omega)] at h6
    have S8b := (S14.trans S5).trans S6
    have d9 := d6.same S8b
    have f9 := f06.trans (Fix.same (p := p) (q := q) S8b)
    have hw9 := hw6.same S8b
    have tN : TabAt H9 a6 (M.set i.toNat nrow) := by
      refine ⟨us.set i.toNat a2, by rw [List.map_set]; exact h6, ?_⟩
      exact paired_set (paired_mono hpu fun _ _ z => rowT_same z S8b) (rowT_same (Tup.of h2) (((S3.trans S4).trans S5).trans S6)) _
    have gN : Tk k (M.set i.toNat nrow) := ⟨by rw [List.length_set]; exact gm.l, fun r hr => by
      rcases List.mem_or_eq_of_mem_set hr with z | z
      · exact gm.r r z
      · rw [z]; exact ln, gm.k1, gm.k4⟩
    walk_at "rd"
    by_cases c0' : fm = 0
    · refine iteT' (decide_eq_true c0') ?_
      walk_at "rd"
      refine ⟨u, rfl, ⟨_, (hu.same S8b).sq⟩, fun D hD => ?_⟩
      refine lc_tup (xs := us.map V.ref) (fun i H' => Same H9 H' ∧ ∃ ts : List Addr, H' D = some (.lst (ts.map V.ref)) ∧ Paired (RowT H') ts ((M.map fun r => r.map (fun x : Int => x + 5)).take i))
        ⟨Same.fresh hD, [], upd_same, .nil⟩ (fun i H' _ pv => ((hu.same S8b).same pv.1).sq) (fun i x H10 hx pv => ?_) (fun H10 pv => ?_)
      · obtain ⟨S10, ts, hts, pt⟩ := pv
        rw [List.getElem?_map] at hx
        obtain ⟨r, hr, rfl⟩ := Option.map_eq_some_iff.mp hx
        obtain ⟨row, hrow, hrr⟩ := paired_get hpu hr
        have lr := gm.r row (List.mem_of_getElem? hrow)
        have hr10 := rowT_same hrr (S8b.trans S10)
        have lt := paired_len pt
        rw [List.length_take] at lt
        have li := (List.getElem?_eq_some_iff.mp hrow).1
        have lM := gm.l
        walk_at "rd"
        refine ⟨rfl, ?_⟩
        walk_at "rd"
        refine ⟨r, rfl, ⟨_, hr10.sq⟩, fun D2 hD2 => ?_⟩
        refine lcv_tup (xs := row.map V.int) ((row.map (fun x : Int => x + 5)).map V.int) hr10 (by simp) (by simp; omega) hD2 (fun j x z H11 hx hz S11 R hR => ?_) (fun H11 S11 hx11 => ?_)
        · rw [List.getElem?_map] at hx
          obtain ⟨o, ho, rfl⟩ := Option.map_eq_some_iff.mp hx
          rw [List.getElem?_map, List.getElem?_map, ho] at hz
          cases hz
          walk_at "rd"
          refine ⟨rfl, ?_⟩
          walk_at "rd"
          exact hR H11 (Same.refl _)
        · walk_at "rd"
          refine rd_tupL hx11 ?_
          intro v H12 z12 S12 hv
          have hts12 := (S11.trans S12) _ _ hts
          refine ⟨_, hts12, ?_, same_put (S10.trans (S11.trans S12)) hD, ts ++ [v], by rw [upd_same]; simp, ?_⟩
          · rw [List.length_map]
            exact Nat.lt_of_le_of_lt (by omega : ts.length ≤ 1000) (by decide)
          · rw [List.take_succ, List.getElem?_map, hrow]
            have K12 : Kept H12 (upd H12 D (.lst (ts.map V.ref ++ [V.ref v]))) := Kept.upd hts12
            exact paired_append (paired_mono pt fun _ _ z => tup_kept (rowT_same z (S11.trans S12)) K12) (.cons (tup_kept (Tup.of hv) K12) .nil)
      · obtain ⟨S10, ts, hts, pt⟩ := pv
        rw [List.length_map, hpl, List.take_of_length_le (by rw [List.length_map]; exact Nat.le_refl _)] at pt
        walk_at "rd"
        refine rd_tupL hts ?_
        intro bt Hb zb Sb hbt
        have tb : TabAt Hb bt (M.map fun r => r.map (fun x : Int => x + 5)) := ⟨ts, Tup.of hbt, paired_mono pt fun _ _ z => rowT_same z Sb⟩
        have gb : Tk k (M.map fun r => r.map (fun x : Int => x + 5)) := ⟨by rw [List.length_map]; exact gm.l, fun r hr => by obtain ⟨row, hrow, rfl⟩ := List.mem_map.mp hr; rw [List.length_map]; exact gm.r row hrow, gm.k1, gm.k4⟩
        have db := d9.same (S10.trans Sb)
        have fb := f9.trans (Fix.same (p := p) (q := q) (S10.trans Sb))
        have hwb := hw9.same (S10.trans Sb)
        generalize (M.map fun r => r.map (fun x : Int => x + 5)) = Mb at tb gb
        walk_at "rd"
        intro v Hv zv Sv hv
        walk_at "rd"
        refine ⟨t, k, W, .ref v, _, rfl, hwb.same Sv, g, .wts (Tup.of hv) (tb.same Sv) gb.l gb.r, fun Hc Sc => ?_⟩
        rw [right_eq]
        have rb := rep_bool (folB k W Mb)
        walk_at "rd"
        refine rd_repr (.bl _) rb.s rb.n rb.h rb.l ?_
        walk_at "rd"
        refine ⟨t, bt, k, W, Mb, rfl, (hwb.same Sv).same Sc, (tb.same Sv).same Sc, g, gb, fun He Se => ?_⟩
        walk_at "rd"
        refine rd_repr (.bl _) rb.s rb.n rb.h rb.l ?_
        refine rd_eqS ?_
        rw [decide_eq_true rfl]
        exact hQ He (db.same (Sv.trans (Sc.trans Se))) (fb.trans (Fix.same (Sv.trans (Sc.trans Se))))
    · refine iteF' (decide_eq_false c0') ?_
      walk_at "rd"
      by_cases c1' : fm = 1
      · refine iteT' (decide_eq_true c1') ?_
        walk_at "rd"
        refine ⟨u, rfl, ⟨_, (hu.same S8b).sq⟩, fun D hD => ?_⟩
        refine lc_tup (xs := us.map V.ref) (fun i H' => Same H9 H' ∧ ∃ ts : List Addr, H' D = some (.lst (ts.map V.ref)) ∧ Paired (RowT H') ts ((M.map fun r => r.map (fun x : Int => 0 - x)).take i))
          ⟨Same.fresh hD, [], upd_same, .nil⟩ (fun i H' _ pv => ((hu.same S8b).same pv.1).sq) (fun i x H10 hx pv => ?_) (fun H10 pv => ?_)
        · obtain ⟨S10, ts, hts, pt⟩ := pv
          rw [List.getElem?_map] at hx
          obtain ⟨r, hr, rfl⟩ := Option.map_eq_some_iff.mp hx
          obtain ⟨row, hrow, hrr⟩ := paired_get hpu hr
          have lr := gm.r row (List.mem_of_getElem? hrow)
          have hr10 := rowT_same hrr (S8b.trans S10)
          have lt := paired_len pt
          rw [List.length_take] at lt
          have li := (List.getElem?_eq_some_iff.mp hrow).1
          have lM := gm.l
          walk_at "rd"
          refine ⟨rfl, ?_⟩
          walk_at "rd"
          refine ⟨r, rfl, ⟨_, hr10.sq⟩, fun D2 hD2 => ?_⟩
          refine lcv_tup (xs := row.map V.int) ((row.map (fun x : Int => 0 - x)).map V.int) hr10 (by simp) (by simp; omega) hD2 (fun j x z H11 hx hz S11 R hR => ?_) (fun H11 S11 hx11 => ?_)
          · rw [List.getElem?_map] at hx
            obtain ⟨o, ho, rfl⟩ := Option.map_eq_some_iff.mp hx
            rw [List.getElem?_map, List.getElem?_map, ho] at hz
            cases hz
            walk_at "rd"
            refine ⟨rfl, ?_⟩
            walk_at "rd"
            exact hR H11 (Same.refl _)
          · walk_at "rd"
            refine rd_tupL hx11 ?_
            intro v H12 z12 S12 hv
            have hts12 := (S11.trans S12) _ _ hts
            refine ⟨_, hts12, ?_, same_put (S10.trans (S11.trans S12)) hD, ts ++ [v], by rw [upd_same]; simp, ?_⟩
            · rw [List.length_map]
              exact Nat.lt_of_le_of_lt (by omega : ts.length ≤ 1000) (by decide)
            · rw [List.take_succ, List.getElem?_map, hrow]
              have K12 : Kept H12 (upd H12 D (.lst (ts.map V.ref ++ [V.ref v]))) := Kept.upd hts12
              exact paired_append (paired_mono pt fun _ _ z => tup_kept (rowT_same z (S11.trans S12)) K12) (.cons (tup_kept (Tup.of hv) K12) .nil)
        · obtain ⟨S10, ts, hts, pt⟩ := pv
          rw [List.length_map, hpl, List.take_of_length_le (by rw [List.length_map]; exact Nat.le_refl _)] at pt
          walk_at "rd"
          refine rd_tupL hts ?_
          intro bt Hb zb Sb hbt
          have tb : TabAt Hb bt (M.map fun r => r.map (fun x : Int => 0 - x)) := ⟨ts, Tup.of hbt, paired_mono pt fun _ _ z => rowT_same z Sb⟩
          have gb : Tk k (M.map fun r => r.map (fun x : Int => 0 - x)) := ⟨by rw [List.length_map]; exact gm.l, fun r hr => by obtain ⟨row, hrow, rfl⟩ := List.mem_map.mp hr; rw [List.length_map]; exact gm.r row hrow, gm.k1, gm.k4⟩
          have db := d9.same (S10.trans Sb)
          have fb := f9.trans (Fix.same (p := p) (q := q) (S10.trans Sb))
          have hwb := hw9.same (S10.trans Sb)
          generalize (M.map fun r => r.map (fun x : Int => 0 - x)) = Mb at tb gb
          walk_at "rd"
          intro v Hv zv Sv hv
          walk_at "rd"
          refine ⟨t, k, W, .ref v, _, rfl, hwb.same Sv, g, .wts (Tup.of hv) (tb.same Sv) gb.l gb.r, fun Hc Sc => ?_⟩
          rw [right_eq]
          have rb := rep_bool (folB k W Mb)
          walk_at "rd"
          refine rd_repr (.bl _) rb.s rb.n rb.h rb.l ?_
          walk_at "rd"
          refine ⟨t, bt, k, W, Mb, rfl, (hwb.same Sv).same Sc, (tb.same Sv).same Sc, g, gb, fun He Se => ?_⟩
          walk_at "rd"
          refine rd_repr (.bl _) rb.s rb.n rb.h rb.l ?_
          refine rd_eqS ?_
          rw [decide_eq_true rfl]
          exact hQ He (db.same (Sv.trans (Sc.trans Se))) (fb.trans (Fix.same (Sv.trans (Sc.trans Se))))
      · refine iteF' (decide_eq_false c1') ?_
        have tb := tN
        have gb := gN
        have hwb := hw9
        have db := d9
        have fb := f9
        generalize M.set i.toNat nrow = Mb at tb gb
        obtain ⟨bt, ebt⟩ : ∃ bt, a6 = bt := ⟨_, rfl⟩
        subst ebt
        walk_at "rd"
        intro v Hv zv Sv hv
        walk_at "rd"
        refine ⟨t, k, W, .ref v, _, rfl, hwb.same Sv, g, .wts (Tup.of hv) (tb.same Sv) gb.l gb.r, fun Hc Sc => ?_⟩
        rw [right_eq]
        have rb := rep_bool (folB k W Mb)
        walk_at "rd"
        refine rd_repr (.bl _) rb.s rb.n rb.h rb.l ?_
        walk_at "rd"
        refine ⟨t, a6, k, W, Mb, rfl, (hwb.same Sv).same Sc, (tb.same Sv).same Sc, g, gb, fun He Se => ?_⟩
        walk_at "rd"
        refine rd_repr (.bl _) rb.s rb.n rb.h rb.l ?_
        refine rd_eqS ?_
        rw [decide_eq_true rfl]
        exact hQ He (db.same (Sv.trans (Sc.trans Se))) (fb.trans (Fix.same (Sv.trans (Sc.trans Se))))
  | @rnd f h =>
    refine rd_ixT h rfl ?_
    walk_at "rd"
    refine rd_eqS ?_
    rw [show decide ((("round" : Str)) = (("weights" : Str))) = false from by decide +kernel]
    walk_at "rd"
    try with_reducible refine iteF' rfl ?_
    walk_at "rd"
    refine ⟨by decide, by decide, fun D hD => ?_⟩
    obtain ⟨d0, Dp, Dq⟩ := d.new (o := .lst []) hD
    refine lc_range (lo := 0) (n := 4) (fun i H' => Deal H' p q ∧ Fix p q H H' ∧ ∃ ns : List Int, H' D = some (.lst (ns.map V.int)) ∧ ns.length = i ∧ ∀ x ∈ ns, Lt k x)
      ⟨d0, Fix.new hD, [], upd_same, rfl, by simp⟩ (fun i H1 hi pv => ?_) (fun H1 pv => ?_)
    · obtain ⟨d1, f1, ns, hns, lns, bns⟩ := pv
      walk_at "rd"
      refine ⟨rfl, ?_⟩
      walk_at "rd"
      refine ⟨p, q, ((k : Nat) : Int), rfl, d1, by omega, by omega, fun H2 j d2 f2 j0 j1 => ?_⟩
      refine ⟨_, f2 _ _ Dp Dq hns, ?_, d2.off Dp Dq, (f1.trans f2).upd hD, ns ++ [j], ?_, by simp [lns], fun m hm => ?_⟩
      · rw [List.length_map]
        exact Nat.lt_of_le_of_lt (by omega : ns.length ≤ 100) (by decide)
      · rw [upd_same]; simp
      · rcases List.mem_append.mp hm with z | z
        · exact bns m z
        · rw [List.mem_singleton.mp z]; exact ⟨j0, j1⟩
    · obtain ⟨d1, f1, ns, hns, lns, bns⟩ := pv
      obtain ⟨a, c, b, e, rfl⟩ : ∃ a c b e, ns = [a, c, b, e] := by
        match ns, lns with
        | [a, c, b, e], _ => exact ⟨a, c, b, e, rfl⟩
      have la := bns a (by simp)
      have lc := bns c (by simp)
      have lb := bns b (by simp)
      have le := bns e (by simp)
      have hw1 := hw.kept (Kept.fix f1 d d1)
      walk_at "rd"
      refine rd_tupL hns ?_
      intro f4 H2 z2 S2 hf4
      walk_at "rd"
      refine rd_callK ?_
      walk_at "rd"
      intro v H3 z3 S3 hv
      walk_at "rd"
      refine ⟨rfl, t, k, W, .ref v, _, rfl, hw1.same (S2.trans S3), g, .rnd (e := (a, c, b, e)) (Tup.of hv) (Tup.of (S3 _ _ hf4)) la lc lb le, fun H4 S4 => ?_⟩
      have rb := rep_bool (!decide (rs4 W (a, c, b, e) = 0))
      have S14 := (S2.trans S3).trans S4
      walk_at "rd"
      refine rd_repr (.bl _) rb.s rb.n rb.h rb.l ?_
      walk_at "rd"
      refine ⟨t, f4, k, W, (a, c, b, e), rfl, hw1.same S14, g, Tup.of ((S3.trans S4) _ _ hf4), la, lc, lb, le, fun H5 S5 => ?_⟩
      walk_at "rd"
      refine rd_repr (.bl _) rb.s rb.n rb.h rb.l ?_
      refine rd_eqS ?_
      rw [decide_eq_true rfl]
      exact hQ H5 (d1.same (S14.trans S5)) (f1.trans (Fix.same (S14.trans S5)))
end
end K69

namespace K69
open PySem PySem.Spec PyProof.Rows L2 KX LamX RZ
local macro_rules | `(tactic| walk_at "rd1") => `(tactic| first
  | with_reducible refine rd_seq ?_
  | with_reducible refine rd_for ?_
  | with_reducible refine rd_lc ?_
  | with_reducible refine rd_asg ?_
  | ((with_reducible refine' rd_var ?rdv ?_); (case rdv => exact rfl))
  | with_reducible refine rd_c ?_
  | with_reducible refine rd_op ?_
  | with_reducible refine rd_un ?_
  | with_reducible refine rd_cons ?_
  | with_reducible refine rd_nil ?_
  | with_reducible refine rd_call ?_
  | with_reducible refine rd_cb ?_
  | with_reducible refine rd_tB ?_
  | with_reducible refine rd_test ?_
  | with_reducible refine rd_bl ?_
  | with_reducible refine rd_rI0 ?_
  | with_reducible refine rd_eqI ?_
  | with_reducible refine rd_neI ?_
  | with_reducible refine rd_rU ?_
  | with_reducible refine rd_name ?_
  | with_reducible refine rd_ifs ?_
  | with_reducible refine rd_and ?_
  | with_reducible refine rd_or ?_
  | with_reducible refine rd_not ?_
  | with_reducible refine rd_yes ?_
  | with_reducible refine rd_andV ?_
  | with_reducible refine rd_orV ?_
  | with_reducible refine rd_notV ?_
  | with_reducible refine rd_if ?_
  | with_reducible refine rd_isN ?_
  | with_reducible refine rd_iT ?_
  | with_reducible refine rd_iF ?_
  | with_reducible refine rd_ret ?_
  | with_reducible refine rd_retN ?_
  | with_reducible refine rd_drop ?_
  | with_reducible refine rd_next ?_
  | with_reducible refine rd_cont ?_
  | with_reducible refine rd_brk ?_
  | with_reducible refine rd_nx ?_
  | with_reducible refine rd_rt ?_
  | with_reducible refine rd_ct ?_
  | with_reducible refine rd_bk ?_
  | with_reducible refine rd_par ?_
  | with_reducible refine rd_par3 ?_
  | with_reducible refine rd_par2 ?_
  | with_reducible refine rd_par33 ?_
  | with_reducible refine rd_gcons ?_
  | with_reducible refine rd_gnil ?_
  | with_reducible refine rd_sub ?_
  | with_reducible refine rd_tup ?_
  | with_reducible refine rd_lst ?_
  | ((with_reducible refine rd_tupT ?hl ?_); (case hl => exact Nat.le_of_ble_eq_true rfl))
  | ((with_reducible refine rd_lstT ?hl ?_); (case hl => exact Nat.le_of_ble_eq_true rfl))
  | with_reducible refine rd_bm ?_
  | with_reducible refine rd_bm0 ?_
  | with_reducible refine rd_sl ?_
  | with_reducible refine rd_noP ?_
  | with_reducible refine rd_part ?_
  | with_reducible refine rd_int ?_
  | with_reducible refine rd_int1 ?_
  | with_reducible refine rd_fld ?_
  | with_reducible refine rd_then ?_
  | with_reducible refine rd_raise ?_
  | with_reducible refine rd_one ?_
  | with_reducible refine rd_sfld ?_
  | with_reducible refine rd_ilist ?_
  | with_reducible refine rd_itup ?_
  | with_reducible refine rd_rng1 ?_
  | with_reducible refine rd_enum ?_
  | with_reducible refine rd_enumT ?_)
local macro_rules | `(tactic| walk_at "rd") => `(tactic| repeat (walk_at "rd1"))
/-! ### the def that hears -/
theorem pss_given {X : Cx} {ss : List Stmt} {t : TS} {p : Prop} {n : Nat} (hn : X.N.length = n) (h : p → PSs X ss t) : PSs X ss (fun D σ H => p ∧ (σ.length = n → t D σ H)) :=
  ⟨fun pins s σ H D I q => (h q.1).run pins s σ H D I (q.2 (I.len.trans hn))⟩
/-- what is known of the error's class -/
structure IsS (K : PySem.W.Frag) (CS : Addr) : Prop where
  xq : XfC K CS
  nq : PySem.W.findIn K (.ref CS) "at" = some none
  qq : PySem.W.exmOne K (.ref CS) (.ref CS) = some true
def HearS (CS : Addr) (Q : VK) : XK := fun cls d H' => ∃ dd v, d = some dd ∧ H' dd = some (.xd [(("at" : Str), v)]) ∧ cls = .ref CS ∧ NewO H' (.tup [.str "score", v]) Q
def TTs (CS : Addr) : (XK → Hp → VK → Prop) → Hp → VK → Prop := fun tl H Q => tl (HearS CS Q) H (fun _ H' => Q .non H')
def tWd (w : Str) (C a : Addr) (cls : Value) (d : Option Addr) : TS := tRet (tTup (tCons (tC (.str w)) (tCons (tXf a cls d C "at" (tVar 1)) tNil)))
theorem gives {X : Cx} {g CS CN : Addr} {cdg : Value} {q : Str} (T : IsS X.K CS) (gS : X.mg "InvalidScore" = some (.ref CS)) (gN : X.mg "NetError" = some (.ref CN)) :
    GivesTo X ["work", "error"] "_law_refused" (defScope s__law_refused) g cdg (defBody s__law_refused) "work" q (TTs CS) := by
  intro f c' s H Q tl act hc h
  refine ⟨_, pss_cons (ps_try_hears (X := (cxOf C8.CX0 X.prog X.w X.K X.mg X.base ["work", "error"] "_law_refused" (defScope s__law_refused) g cdg X.A X.stack s H C8.E0).nox)
      (tb := fun W D σ H => ∃ Ech : XK, (∀ cls d σ' H', Ech cls d H' → W cls d σ' H') ∧ σ[0]? = some (some (.ref f)) ∧ H c' = some (CodeO c' q) ∧ tl Ech H (fun _ H' => D.nx σ H'))
      rfl rfl (fun W pn xe tk _ => ?_)
      (hears_named (c := .ref CS) (i := 1) (ts := fun a cls d D σ H => cls = .ref CS ∧ (σ.length = 2 → tWd "score" CS a cls d D σ H)) rfl sc__law_refused.nd rfl rfl ⟨rfl, by decide, .inl gS⟩ (fun a oe cls d pn hz hf => pss_given (n := 2) rfl fun hcls => ?_)
      (hears_plain (c := .ref CN) rfl ⟨rfl, by decide, .inl gN⟩ (fun a oe cls d pn hz hf => pss_one (ps_ret (pe_tup (pa_cons pe_str (pa_cons pe_int pa_nil)))))
      (hears_nil (Wout := fun _ _ _ _ => False) rfl rfl LamX.takes0)))) (pss_one (ps_ret pe_non)), ?_⟩
  · refine ⟨fun pins s' σ H' D I h' => ?_⟩
    obtain ⟨Ech, hW, h1, h2, h3⟩ := h'
    exact (pss_one (ps_expr (act W pn xe Ech _ _ tk hW))).run pins s' σ H' D I ⟨h1, h2, h3⟩
  · subst hcls
    exact pss_one (ps_ret (pe_tup (pa_cons pe_str (pa_cons (pe_xf T.xq T.nq hz hf (pv 1)) pa_nil))))
  · refine ⟨HearS CS Q, fun cls d σ' H' h => ?_, rfl, hc, h⟩
    obtain ⟨dd, v, rfl, hdd, rfl, hn⟩ := h
    refine ⟨true, T.qq, fun _ a _ => ⟨rfl, fun hl => ?_⟩, fun z => Bool.noConfusion z⟩
    rw [List.length_set] at hl
    have l1 : (σ'.set 1 (some (V.ref a)))[1]? = some (some (V.ref a)) := by
      rw [List.getElem?_set_self (by omega)]
    unfold tWd
    walk_at "rd"
    refine ⟨.ref a, l1, rfl, rfl, dd, _, v, rfl, hdd, by simp [List.lookup], ?_⟩
    walk_at "rd"
    exact hn
/-! ### what the law's texts keep -/
theorem tabs_fix {T : List (Addr × Str)} {H H' : Hp} {p q : Addr} (t : Tabs T H) (d : Deal H p q) (f : Fix p q H H') : Tabs T H' := fun z hz => by
  obtain ⟨ps, h1, h2, h3⟩ := t z hz
  refine ⟨ps, f.keep d h1 (fun xs e => nomatch e), h2, fun pos cv hc => ?_⟩
  obtain ⟨c, e1, e2⟩ := h3 pos cv hc
  exact ⟨c, e1, f.keep d e2 (fun xs e => by unfold CodeO at e; cases e)⟩
theorem Deal.extN {H H' : Hp} {p q : Addr} (d : Deal H p q) (e : ExtN H H') : Deal H' p q := by
  obtain ⟨ns, b, d⟩ := d
  exact ⟨ns, b, e _ _ d.hp (fun ps z => nomatch z), e _ _ d.hq (fun ps z => nomatch z), d.ne, d.nn, d.len, d.b0, d.b1⟩
def qM : Str := (envOfC "law" (defScope s_law) 0 0 .none).qual ++ "<lambda>"
/-- a def whose code object is known -/
def DefC (K : PySem.W.Frag) (x : Str) (st : Stmt) (f c : Addr) (fd : FuncData) : Prop :=
  ∃ (oc : Value) (od : Option Addr) (kV doc pm : Value) (an : Option Addr) (ct : Value) (osl : Array (Option Value)), fd = PySem.W.fnOf x x (defArgs st) (defBody st) (defScope st) .none kV doc pm an (.ref c) ct ∧
    K.lookup f = some ⟨oc, od, .func fd, osl⟩ ∧ PySem.W.codeIn K (.ref c) x = true
theorem rd_lam {T : List (Addr × Str)} {TT : (XK → Hp → VK → Prop) → Hp → VK → Prop} {t : XK → TE} {σ : L2.St} {H : Hp} {Q : VK} (hT : Tabs T H) (h : ∀ H1, ExtN H H1 → Tabs T H1 → TT (fun E H' Q' => t E σ H' Q') H1 Q) : tLam T TT t σ H Q := ⟨hT, h⟩
theorem rd_tts {CS : Addr} {tl : XK → Hp → VK → Prop} {H : Hp} {Q : VK} (h : tl (HearS CS Q) H (fun _ H' => Q .non H')) : TTs CS tl H Q := h
theorem told_s {CS : Addr} {H : Hp} {Q : VK} {i : Int} (h : ∀ H' r, Same H H' → H' r = some (.tup [.str "score", .int i]) → Q (.ref r) H') : ErrAt CS (HearS CS Q) H i := fun H' d S hd =>
  ⟨d, .int i, rfl, upd_same, rfl, fun r H2 _ S2 e2 => h H2 r ((S.trans (Same.fresh hd)).trans S2) e2⟩
theorem dp_word {K : PySem.W.Frag} {H : Hp} {r : Addr} {w : Str} {i : Int} (h : H r = some (.tup [.str w, .int i])) : Dp K H (.ref r) (.tuple [.str w, .int i]) := .tup (SqT.of h) (.cons (.str w) (.cons (.int i) .nil))
theorem sh_word (w : Str) (i : Int) (hw : PyData.strOk w = true) : SeqAt.shaped (.tuple [.str w, .int i]) = true := by
  simp [SeqAt.shaped, PyData.canLay0, PyData.canLayAll0, PyData.depth, PyData.depthAll, hw]
theorem eqv_word (w : Str) (i : Int) : PyData.eqv (.tuple [.str w, .int i]) (.tuple [.str w, .int i]) = true := by
  simp [PyData.eqv, PyData.eqvAll]
theorem rd_neWord {K : PySem.W.Frag} {H : Hp} {Q : VK} {r s : Addr} {w : Str} {i : Int} (hr : H r = some (.tup [.str w, .int i])) (hs : H s = some (.tup [.str w, .int i])) (h : Q (.bl false) H) (hw : PyData.strOk w = true := by decide +kernel) : rNeD K (.ref r) (.ref s) H Q :=
  ⟨_, _, dp_word hr, dp_word hs, sh_word w i hw, sh_word w i hw, by rw [eqv_word]; exact h⟩
end K69

namespace K69
open PySem PySem.Spec PyProof.Rows L2 KX LamX RZ
local macro_rules | `(tactic| walk_at "rd1") => `(tactic| first
  | with_reducible refine rd_seq ?_
  | with_reducible refine rd_for ?_
  | with_reducible refine rd_lc ?_
  | with_reducible refine rd_asg ?_
  | ((with_reducible refine' rd_var ?rdv ?_); (case rdv => exact rfl))
  | with_reducible refine rd_c ?_
  | with_reducible refine rd_op ?_
  | with_reducible refine rd_un ?_
  | with_reducible refine rd_cons ?_
  | with_reducible refine rd_nil ?_
  | with_reducible refine rd_call ?_
  | with_reducible refine rd_cb ?_
  | with_reducible refine rd_tB ?_
  | with_reducible refine rd_test ?_
  | with_reducible refine rd_bl ?_
  | with_reducible refine rd_rI0 ?_
  | with_reducible refine rd_eqI ?_
  | with_reducible refine rd_neI ?_
  | with_reducible refine rd_rU ?_
  | with_reducible refine rd_name ?_
  | with_reducible refine rd_ifs ?_
  | with_reducible refine rd_and ?_
  | with_reducible refine rd_or ?_
  | with_reducible refine rd_not ?_
  | with_reducible refine rd_yes ?_
  | with_reducible refine rd_andV ?_
  | with_reducible refine rd_orV ?_
  | with_reducible refine rd_notV ?_
  | with_reducible refine rd_if ?_
  | with_reducible refine rd_isN ?_
  | with_reducible refine rd_iT ?_
  | with_reducible refine rd_iF ?_
  | with_reducible refine rd_ret ?_
  | with_reducible refine rd_retN ?_
  | with_reducible refine rd_drop ?_
  | with_reducible refine rd_next ?_
  | with_reducible refine rd_cont ?_
  | with_reducible refine rd_brk ?_
  | with_reducible refine rd_nx ?_
  | with_reducible refine rd_rt ?_
  | with_reducible refine rd_ct ?_
  | with_reducible refine rd_bk ?_
  | with_reducible refine rd_par ?_
  | with_reducible refine rd_par3 ?_
  | with_reducible refine rd_par2 ?_
  | with_reducible refine rd_par33 ?_
  | with_reducible refine rd_gcons ?_
  | with_reducible refine rd_gnil ?_
  | with_reducible refine rd_sub ?_
  | with_reducible refine rd_tup ?_
  | with_reducible refine rd_lst ?_
  | ((with_reducible refine rd_tupT ?hl ?_); (case hl => exact Nat.le_of_ble_eq_true rfl))
  | ((with_reducible refine rd_lstT ?hl ?_); (case hl => exact Nat.le_of_ble_eq_true rfl))
  | with_reducible refine rd_bm ?_
  | with_reducible refine rd_bm0 ?_
  | with_reducible refine rd_sl ?_
  | with_reducible refine rd_noP ?_
  | with_reducible refine rd_part ?_
  | with_reducible refine rd_int ?_
  | with_reducible refine rd_int1 ?_
  | with_reducible refine rd_fld ?_
  | with_reducible refine rd_then ?_
  | with_reducible refine rd_raise ?_
  | with_reducible refine rd_one ?_
  | with_reducible refine rd_sfld ?_
  | with_reducible refine rd_ilist ?_
  | with_reducible refine rd_itup ?_
  | with_reducible refine rd_rng1 ?_
  | with_reducible refine rd_enum ?_
  | with_reducible refine rd_enumT ?_)
local macro_rules | `(tactic| walk_at "rd") => `(tactic| repeat (walk_at "rd1"))
theorem kb_exact_weights {K : PySem.W.Frag} {mg : Str → Option Value} (T : TX K mg) : KBn K T.d_exact_weights ["table"] 0 ["table"] (fun _ ws => match ws with | [v0] => [v0] | ws => ws) (fun _ ws => match ws with | [v0] => [v0] | ws => ws) := by
  obtain ⟨oc, od, kV, doc, pm, an, cdv, ct, osl, e, lk, hcd⟩ := T.F_exact_weights.ex
  rw [e]
  refine ⟨fun s us ws _ h0 h2 => ?_, fun {vs us zs ws} _ r => ?_⟩
  · match us, ws, h0, h2 with
    | [], [v0], _, _ => exact .of_eq rfl
  · exact match r with
      | .nil => .nil
      | .cons a0 (.nil) => .cons a0 (.nil)
      | .cons a0 (.cons a1 (r)) => .cons a0 (.cons a1 (r))
/-! ### texts of data -/
structure Sm (d : PyData) (w k : Nat) : Prop where
  s : d.showable = true
  n : d.hasDict = false
  l : d.leavesShort 13 = true
  w : d.weight ≤ w
  h : d.depth ≤ k
structure SmA (ds : List PyData) (w k : Nat) : Prop where
  s : PyData.showableAll ds = true
  n : PyData.hasDictAll ds = false
  l : PyData.leavesShortAll 13 ds = true
  w : PyData.weightAll ds ≤ w * ds.length
  h : PyData.depthAll ds ≤ k
theorem Sm.rep {d : PyData} {w k : Nat} (h : Sm d w k) (hw : w ≤ 1000000) (hk : k ≤ 64) : Rep d := by
  refine ⟨h.s, h.n, Nat.le_trans h.h hk, ?_⟩
  have q := PyData.shown_le 13 (by decide) d h.l
  have w' := h.w
  have z : sizeLine = 16777216 := by decide
  omega
theorem sm_int {i : Int} (h0 : 0 ≤ i) (h1 : i < 1000) : Sm (.int i) 11 0 := by
  have hl : i.natAbs.log2 < 10 := PySem.Flt.log2_lt_of (by decide) (by omega : i.natAbs < 2 ^ 10)
  refine ⟨decide_eq_true (by omega), rfl, ?_, ?_, Nat.le_refl _⟩
  · exact decide_eq_true (PyData.shown_int_le (by omega))
  · show (if i == 0 then 0 else i.natAbs.log2 + 1) ≤ 11
    split <;> omega
theorem SmA.nil {w k : Nat} : SmA [] w k := ⟨rfl, rfl, rfl, Nat.zero_le _, Nat.zero_le _⟩
theorem SmA.cons {d : PyData} {ds : List PyData} {w k : Nat} (a : Sm d w k) (b : SmA ds (w + 1) k) : SmA (d :: ds) (w + 1) k := by
  refine ⟨?_, ?_, ?_, ?_, ?_⟩
  · show (d.showable && PyData.showableAll ds) = true
    rw [a.s, b.s]; rfl
  · show (d.hasDict || PyData.hasDictAll ds) = false
    rw [a.n, b.n]; rfl
  · show (d.leavesShort 13 && PyData.leavesShortAll 13 ds) = true
    rw [a.l, b.l]; rfl
  · show d.weight + 1 + PyData.weightAll ds ≤ (w + 1) * (ds.length + 1)
    have := a.w; have := b.w
    rw [Nat.mul_add]; omega
  · show max d.depth (PyData.depthAll ds) ≤ k
    have := a.h; have := b.h
    omega
theorem SmA.tuple {ds : List PyData} {w k : Nat} (a : SmA ds w k) : Sm (.tuple ds) (w * ds.length) (k + 1) :=
  ⟨a.s, a.n, a.l, a.w, Nat.add_le_add_right a.h 1⟩
theorem Sm.mono {d : PyData} {w k w' k' : Nat} (h : Sm d w k) (hw : w ≤ w') (hk : k ≤ k') : Sm d w' k' := ⟨h.s, h.n, h.l, Nat.le_trans h.w hw, Nat.le_trans h.h hk⟩
theorem sm_round : Sm (.str "round") 99 1 := ⟨by decide +kernel, rfl, by decide +kernel, by decide +kernel, by decide +kernel⟩
def d4 (q : Four) : PyData := .tuple [.int q.1, .int q.2.1, .int q.2.2.1, .int q.2.2.2]
theorem rep_four {q : Four} {k : Nat} (k4 : k ≤ 4) (h : q ∈ quads k) : Rep (.tuple [.str "round", d4 q]) := by
  obtain ⟨⟨a0, a1⟩, ⟨c0, c1⟩, ⟨b0, b1⟩, ⟨e0, e1⟩⟩ := mem_quads.mp h
  have i : Sm (d4 q) (12 * 4) 1 := SmA.tuple (k := 0) (w := 12) (.cons (sm_int a0 (by omega)) (.cons (sm_int c0 (by omega)) (.cons (sm_int b0 (by omega)) (.cons (sm_int e0 (by omega)) .nil))))
  exact (SmA.tuple (k := 1) (w := 100) (.cons (sm_round.mono (by decide) (by decide)) (.cons (i.mono (by decide) (by decide)) .nil))).rep (by show 100 * 2 ≤ 1000000; decide) (by decide)
theorem dp_four {K : PySem.W.Frag} {H : Hp} {f : Addr} {q : Four} (h : FourAt H f q) : Dp K H (.ref f) (d4 q) := .tup (SqT.of h) (.cons (.int _) (.cons (.int _) (.cons (.int _) (.cons (.int _) .nil))))
theorem dp_round {K : PySem.W.Frag} {H : Hp} {r f : Addr} {q : Four} (h : H r = some (.tup [.str "round", .ref f])) (e : FourAt H f q) : Dp K H (.ref r) (.tuple [.str "round", d4 q]) := .tup (SqT.of h) (.cons (.str _) (.cons (dp_four e) .nil))
theorem rep_w : Rep (.str "weights") := ⟨by decide +kernel, rfl, by decide +kernel, by decide +kernel⟩
/-! ### what is told -/
inductive ToldIs (H : Hp) (k : Nat) (W : List (List Int)) (r : Addr) : Prop
  | wts {u : Addr} (n : firstQ k W = none) (h : H r = some (.tup [.str "weights", .ref u])) (tb : TabAt H u (movedT k W)) : ToldIs H k W r
  | rnd {f : Addr} {q : Four} (n : firstQ k W = some q) (h : H r = some (.tup [.str "round", .ref f])) (e : FourAt H f q) : ToldIs H k W r
theorem spEW_of {K : PySem.W.Frag} {CS t : Addr} {k : Nat} {W : List (List Int)} {H : Hp} {Q : VK} {E : XK} (hw : TabAt H t W) (g : Tk k W) (ok : okT W = true) (h : ∀ H' r, Same H H' → ToldIs H' k W r → Q (.ref r) H') : spEW K CS [.ref t] H Q E :=
  ⟨.ref t, rfl, .inr ⟨t, k, W, rfl, hw, g, ok, fun q hq H' r f S e1 e2 => h H' r S (.rnd hq e1 e2), fun hn H' r u S e1 e2 => h H' r S (.wts hn e1 e2)⟩⟩
theorem td_same {H H' : Hp} {k : Nat} {W : List (List Int)} {r : Addr} (h : ToldIs H k W r) (s : Same H H') : ToldIs H' k W r := by
  cases h with
  | wts n h tb => exact .wts n (s _ _ h) (tb.same s)
  | rnd n h e => exact .rnd n (s _ _ h) (s _ _ e)
theorem spF_of {K : PySem.W.Frag} {t : Addr} {k : Nat} {W : List (List Int)} {H : Hp} {Q : VK} {E : XK} (hw : TabAt H t W) (g : Tk k W) (h : ∀ H' x, Same H H' → ((firstQ k W = none ∧ x = .non) ∨ ∃ q f, firstQ k W = some q ∧ x = .ref f ∧ FourAt H' f q) → Q x H') : spFirst K [.ref t] H Q E :=
  ⟨t, k, W, rfl, hw, g, fun q hq H' r S e => h H' (.ref r) S (.inr ⟨q, r, hq, rfl, e⟩), fun hn H' S => h H' .non S (.inl ⟨hn, rfl⟩)⟩
theorem Dec.right {k : Nat} {W M : List (List Int)} (d : Dec k W M) (k1 : 1 ≤ k) : folB k W M = true :=
  fol_yes fun a b ha hb => ⟨d.sy _ _ (by constructor <;> omega) (by constructor <;> omega), d.fo _ _ (by constructor <;> omega) (by constructor <;> omega)⟩
theorem k_listS : kitB "list" "str" = some false := by decide +kernel
/-- values that are no right answer -/
structure WrF (H : Hp) (k : Nat) (r z : Addr) (w0 w1 : Str) (a1 a2 a5 c6 a6 a7 a8 a9 c10 a10 c11 a11 : Addr) : Prop where
  h0 : Tup H r [.str w0, .ref z]
  h1 : ∃ xs, H a1 = some (.lst xs)
  h2 : Tup H a2 [.str w0]
  h5 : Tup H a5 [.str "weights", .non]
  g6 : Tup H c6 [.int 0, .int 1]
  h6 : Tup H a6 [.str "round", .ref c6]
  h7 : Tup H a7 [.str "round", .non]
  h8 : Tup H a8 [.str w0, .ref z, .int 0]
  h9 : Tup H a9 [.str w1, .ref z]
  g10 : Tup H c10 [.int 0, .int (k : Nat), .int 0, .int 0]
  h10 : Tup H a10 [.str "round", .ref c10]
  g11 : Tup H c11 [.int 0, .int 0, .int 0, .int 0]
  h11 : Tup H a11 [.str "round", .ref c11]
  zc : (w1 = "round" ∧ ∃ M, TabAt H z M ∧ Tk k M) ∨ (w1 = "weights" ∧ ∃ q : Four, Tup H z [.int q.1, .int q.2.1, .int q.2.2.1, .int q.2.2.2])
theorem row_int {K : PySem.W.Frag} {H : Hp} {k : Nat} (i : Int) : RowIs K H k (.int i) false := .ntp (.base (.int i)) k_int
theorem wrong_ok {K : PySem.W.Frag} {H : Hp} {k : Nat} {W : List (List Int)} {r z : Addr} {w0 w1 : Str} {a1 a2 a5 c6 a6 a7 a8 a9 c10 a10 c11 a11 : Addr} (h : WrF H k r z w0 w1 a1 a2 a5 c6 a6 a7 a8 a9 c10 a10 c11 a11) (k1 : 1 ≤ k) (x : V)
    (hx : x ∈ [V.non, .ref a1, .ref a2, .ref z, .ref a5, .ref a6, .ref a7, .ref a8, .ref a9, .ref a10, .ref a11]) : ExIs K H k W x false := by
  have l0 : Lt k 0 := by constructor <;> omega
  simp only [List.mem_cons, List.not_mem_nil, or_false] at hx
  rcases hx with e | e | e | e | e | e | e | e | e | e | e <;> subst e
  · exact .nto (.ntp (.base .non) k_non)
  · obtain ⟨xs, e⟩ := h.h1
    exact .nto (.ntp (ty_list e) k_list)
  · exact .nto (.len h.h2 (by show 1 ≠ 2; decide))
  · rcases h.zc with ⟨_, M, tb, g⟩ | ⟨_, q, e⟩
    · obtain ⟨qs, hq, hp⟩ := tb
      have lq := paired_len hp
      by_cases k2 : k = 2
      · have l2 : qs.length = 2 := lq.trans (g.l.trans k2)
        obtain ⟨y0, y1, e⟩ : ∃ y0 y1, qs = [y0, y1] := by
          clear hp hq lq
          match qs, l2 with
          | [y0, y1], _ => exact ⟨y0, y1, rfl⟩
        subst e
        cases hp with
        | cons p0 _ => exact .oth hq p0.ty (by decide +kernel)
      · exact .nto (.len hq (by rw [List.length_map, lq, g.l]; exact k2))
    · exact .nto (.len e (by show 4 ≠ 2; decide))
  · exact .wno h.h5 (.no (.ntp (.base .non) k_non))
  · exact .rno h.h6 (.len h.g6 (by show 2 ≠ 4; decide))
  · exact .rno h.h7 (.ntp (.base .non) k_non)
  · exact .nto (.len h.h8 (by show 3 ≠ 2; decide))
  · rcases h.zc with ⟨e1, M, tb, g⟩ | ⟨e1, q, e⟩
    · have h9 := h.h9
      rw [e1] at h9
      obtain ⟨qs, hq, hp⟩ := tb
      have lq := paired_len hp
      by_cases k2 : k = 4
      · have all : ∀ {qs : List Addr} {M : List (List Int)}, Paired (RowT H) qs M → Paired (Kin K H) (qs.map V.ref) (M.map fun _ => none) := fun p => by
          induction p with
          | nil => exact .nil
          | cons a _ ih => exact .cons (kn_tup a) ih
        refine .bad h9 hq (by rw [List.length_map, lq, g.l]; exact k2) (all hp) ?_
        have : M ≠ [] := fun z => by have := g.l; rw [z] at this; simp at this; omega
        cases M with
        | nil => exact absurd rfl this
        | cons m M => rfl
      · exact .rno h9 (.len hq (by rw [List.length_map, lq, g.l]; exact k2))
    · have h9 := h.h9
      rw [e1] at h9
      refine .wno h9 (.no ?_)
      by_cases k2 : 4 = k
      · have z : RowsIs K H k k (.ref z) ([false, false, false, false].all id) := .ok e k2 (.cons (row_int _) (.cons (row_int _) (.cons (row_int _) (.cons (row_int _) .nil))))
        exact z
      · exact .len e k2
  · refine .bad h.h10 h.g10 rfl (os := [some 0, some ((k : Nat) : Int), some 0, some 0]) (.cons (.int _) (.cons (.int _) (.cons (.int _) (.cons (.int _) .nil)))) ?_
    have : belB (some ((k : Nat) : Int)) ((k : Nat) : Int) = false := by
      unfold belB
      simp
    show (belB (some 0) ((k : Nat) : Int) && (belB (some ((k : Nat) : Int)) ((k : Nat) : Int) && _)) = false
    rw [this, Bool.false_and, Bool.and_false]
  · have z : ExIs K H k W (.ref a11) (!decide (rs4 W (0, 0, 0, 0) = 0)) := .rnd (e := (0, 0, 0, 0)) h.h11 h.g11 l0 l0 l0 l0
    have e : (!decide (rs4 W (0, 0, 0, 0) = 0)) = false := nd_t (show rs4 W (0, 0, 0, 0) = 0 from rs_ac W 0 0 0)
    rw [e] at z
    exact z
/-- values that are no tables -/
structure BdF (H : Hp) (k : Nat) (W : List (List Int)) (qs : List Addr) (r0 a2 a3 a4 c5 a5 c6 a6 a7 : Addr) : Prop where
  g : Tk k W
  p : Paired (RowT H) qs W
  pr : RowT H r0 (rowOf W 0)
  h2 : ∃ xs, H a2 = some (.lst xs)
  h3 : Tup H a3 ((qs.map V.ref).take 1 ++ [.non])
  h4 : Tup H a4 (qs.map V.ref ++ [.ref r0])
  g5 : Tup H c5 [.int 1001]
  h5 : Tup H a5 [.ref c5]
  g6 : Tup H c6 [.bl true]
  h6 : Tup H a6 [.ref c6]
  h7 : Tup H a7 []
theorem rows_ne {K : PySem.W.Frag} {H : Hp} {m k : Nat} (n : k ≠ m) : ∀ {qs : List Addr} {W : List (List Int)}, Paired (RowT H) qs W → (∀ r ∈ W, r.length = k) → Paired (RowIs K H m) (qs.map V.ref) (W.map fun _ => false)
  | [], [], .nil, _ => .nil
  | q :: qs, r :: W, .cons a b, h => .cons (.len a (by rw [List.length_map, h r List.mem_cons_self]; exact n)) (rows_ne n b fun r hr => h r (List.mem_cons_of_mem _ hr))
theorem bad_ok {K : PySem.W.Frag} {H : Hp} {k : Nat} {W : List (List Int)} {qs : List Addr} {r0 a2 a3 a4 c5 a5 c6 a6 a7 : Addr} (h : BdF H k W qs r0 a2 a3 a4 c5 a5 c6 a6 a7) (x : V)
    (hx : x ∈ [V.non, .ref a2, .ref a3, .ref a4, .ref a5, .ref a6, .ref a7, .str "0"]) : TbIs K H x false := by
  have lq := paired_len h.p
  have g := h.g
  have k1 := g.k1
  have k4 := g.k4
  simp only [List.mem_cons, List.not_mem_nil, or_false] at hx
  rcases hx with e | e | e | e | e | e | e | e <;> subst e
  · exact .ntp (.base .non) k_non
  · obtain ⟨xs, e⟩ := h.h2
    exact .ntp (ty_list e) k_list
  · have h3 := h.h3
    have hp := h.p
    have gl := g.l
    clear h lq g
    cases hp with
    | nil =>
      have : (0 : Nat) = k := gl
      omega
    | @cons q r qs W p0 p1 =>
      have l2 : ([V.ref q, .non] : List V).length = 2 := rfl
      refine .no h3 (by show 1 ≤ 2; decide) (by show 2 ≤ 4; decide) ?_
      have z : RowIs K H 2 (.ref q) (if r.length = 2 then (r.map some).all Option.isSome else false) := by
        by_cases c : r.length = 2
        · rw [if_pos c]
          exact .ok p0 (by rw [List.length_map]; exact c) (kin_ints K H r)
        · rw [if_neg c]
          exact .len p0 (by rw [List.length_map]; exact c)
      have y : RowsIs K H 2 2 (.ref a3) ([(if r.length = 2 then (r.map some).all Option.isSome else false), false].all id) := .ok h3 rfl (.cons z (.cons (.ntp (.base .non) k_non) .nil))
      have e : ([(if r.length = 2 then (r.map some).all Option.isSome else false), false].all id) = false := by simp
      rw [e] at y
      exact y
  · by_cases c : k = 4
    · exact .len h.h4 (.inr (by rw [List.length_append, List.length_map, lq, g.l]; show 4 < k + 1; omega))
    · have l : (qs.map V.ref ++ [V.ref r0]).length = k + 1 := by rw [List.length_append, List.length_map, lq, g.l]; rfl
      refine .no h.h4 (by rw [l]; omega) (by rw [l]; omega) ?_
      rw [l]
      have p := paired_append (rows_ne (K := K) (m := k + 1) (by omega) h.p g.r) (.cons (.len h.pr (by rw [List.length_map, g.r _ (rowOf_mem' (by decide) (by rw [g.l]; omega))]; omega)) .nil : Paired (RowIs K H (k + 1)) [V.ref r0] [false])
      have y : RowsIs K H (k + 1) (k + 1) (.ref a4) ((W.map (fun _ => false) ++ [false]).all id) := .ok h.h4 l p
      have e : ((W.map (fun _ => false) ++ [false]).all id) = false := by simp
      rw [e] at y
      exact y
  · have z : TbIs K H (.ref a5) (okT [[1001]]) := .tab (k := 1) ⟨[c5], h.h5, .cons h.g5 .nil⟩ rfl (fun r hr => by rw [List.mem_singleton.mp hr]; rfl) (by decide) (by decide)
    exact z
  · refine .no h.h6 (by show 1 ≤ 1; decide) (by show 1 ≤ 4; decide) ?_
    have y : RowsIs K H 1 1 (.ref a6) ([([none] : List (Option Int)).all Option.isSome].all id) := .ok h.h6 rfl (.cons (.ok h.g6 rfl (.cons (kn_bl _) .nil)) .nil)
    exact y
  · exact .len h.h7 (.inl (by show 0 < 1; decide))
  · exact .ntp (.base (.str _)) k_str
theorem rd_notN {ta : TE} {σ : L2.St} {H : Hp} {Q : VK} (h : ta σ H fun x H1 => Q (.bl (!decide (x = .non))) H1) : tNotN ta σ H Q := h
theorem ite_both {c : Bool} {U B : Prop} (hB : B) (hU : B → U) : if c = true then U else B := by
  cases c with
  | true => rw [if_pos rfl]; exact hU hB
  | false => rw [if_neg (by decide)]; exact hB
theorem nonF : (!decide (V.non = .non)) = false := by decide
theorem refT (a : Addr) : (!decide (V.ref a = .non)) = true := by simp
theorem refF (a : Addr) : decide (V.ref a = .non) = false := by simp
theorem TdIs.same {H H' : Hp} {k : Nat} {r : Addr} (h : TdIs H k r) (s : Same H H') : TdIs H' k r := by
  cases h with
  | wts h tb g => exact .wts (h.same s) (tb.same s) g
  | rnd h => exact .rnd (h.same s)
theorem shT : decide (PyData.shown (.bool true) = (("True" : Str))) = true := by decide +kernel
theorem shF : decide (PyData.shown (.bool false) = (("False" : Str))) = true := by decide +kernel
theorem split_len {α : Type} (f : α → Bool) : ∀ L : List α, L.length = (L.filter f).length + (L.filter fun x => !f x).length
  | [] => rfl
  | x :: L => by
    have := split_len f L
    rw [List.filter_cons, List.filter_cons]
    by_cases h : f x = true
    · simp [h]; omega
    · simp [h]; omega
theorem fst_len {d : Nat} : ∀ (n : Nat) (L : List (Int × Int)), (∀ e ∈ L, 0 ≤ e.1 ∧ e.1 < n) → (∀ s : Int, (L.filter fun e => decide (e.1 = s)).length ≤ d) → L.length ≤ n * d
  | 0, L, h, _ => by
    cases L with
    | nil => simp
    | cons e L => have := h e List.mem_cons_self; omega
  | n + 1, L, h, hd => by
    rw [split_len (fun e => decide (e.1 = ((n : Nat) : Int))) L]
    have h1 := hd ((n : Nat) : Int)
    have h2 := fst_len n (L.filter fun e => !decide (e.1 = ((n : Nat) : Int))) (fun e he => by
      obtain ⟨a, b⟩ := List.mem_filter.mp he
      have := h e a
      simp at b
      omega) fun s => by
        have : ((L.filter fun e => !decide (e.1 = ((n : Nat) : Int))).filter fun e => decide (e.1 = s)).length ≤ (L.filter fun e => decide (e.1 = s)).length := by
          rw [List.filter_filter]
          have e : (L.filter fun e => decide (e.1 = s) && !decide (e.1 = ((n : Nat) : Int))) = ((L.filter fun e => decide (e.1 = s)).filter fun e => !decide (e.1 = ((n : Nat) : Int))) := by
            rw [List.filter_filter]
            congr 1
            funext e
            exact Bool.and_comm _ _
          rw [e]
          exact List.length_filter_le _ _
        exact Nat.le_trans this (hd s)
    rw [Nat.add_mul]; omega
theorem good_len {n : Nat} {L : List (Int × Int)} (g : Good n 4 L) : L.length ≤ n * 4 :=
  fst_len n L (fun e he => by have := g.rng e he; omega) fun s => by
    refine Nat.le_trans ?_ (g.deg s)
    have e : (L.filter fun e => decide (e.1 = s)) = (L.filter (inc s)).filter fun e => decide (e.1 = s) := by
      rw [List.filter_filter]
      congr 1
      funext e
      unfold inc
      by_cases h : e.1 = s <;> simp [h]
    rw [e]
    exact List.length_filter_le _ _
def spLaw (tM : Addr) (K : PySem.W.Frag) : L2.Sp := fun vs H Q _ => ∃ (a : Addr) (ns : List Int), vs = [.ref a] ∧ SqL K H a (ns.map V.int) ∧ H tM = some (.tbl #[]) ∧ ∀ H', Q (.bl true) H'
section
variable {P : Program} {w : World} {K : PySem.W.Frag} {mg : Str → Option Value} {base : Heap} (T : TX K mg)
set_option maxHeartbeats 32000000 in
theorem G_law {cM tM CN : Addr} (B : TabB base mg cM tM) (IS : IsS K T.c_InvalidScore) (gN : mg "NetError" = some (.ref CN)) (DC : DefC K "law" s_law T.f_law cM T.d_law) : FnR P w K mg base CX0 (CG 13) T.f_law T.d_law ["script"] (spLaw tM K) := by
  have bR := T.b__law_refused
  obtain ⟨oc', od', kV', doc', pm', an', cdv', ct', osl', eR, lkR, hcR⟩ := T.F__law_refused.ex
  rw [eR] at bR lkR
  obtain ⟨oc, od, kV, doc, pm, an, ct, osl, eF, lk, hcd⟩ := DC
  rw [eF] at lk
  rw [eF]
  refine fnG_of lk hcd sc_law (fun vs H Q E h => ?_) fun A outer s H vs Q E hr hg h => ?_
  · obtain ⟨a, ns, rfl, _⟩ := h
    rfl
  have hu : (A.deeper (envOfC "law" (defScope s_law) s.heap.objs.size T.f_law (.ref cM))).units + 66 < cLine := by
    have := hr.un
    omega
  refine ⟨_, PSs.nox (pss_cons (ps_set (i := 1) sc_law.nd rfl (.inl rfl) (pe_call (G__law_draw T) (hr.mono (by decide)) (by rfl) T.m__law_draw T.F__law_draw.kp T.b__law_draw .nil pass0 (by exact (pa_cons (pv 0) (pa_cons pe_int pa_nil))))) (pss_cons (ps_for PassesOwn.never rfl (pi_range1 (by rfl) T.n_range (by exact (pa_cons pe_int pa_nil))) (pg_name (i := 2) sc_law.nd rfl (.inl rfl)) (pss_cons (ps_set (i := 3) sc_law.nd rfl (.inl rfl) (pe_call (G__law_of T) (hr.mono (by decide)) (by rfl) T.m__law_of T.F__law_of.kp T.b__law_of .nil pass0 (by exact (pa_cons (pv 1) (pa_cons (pe_lst (pa_cons pe_int (pa_cons pe_int (pa_cons pe_int (pa_cons pe_int (pa_cons pe_int (pa_cons pe_int pa_nil))))))) pa_nil))))) (pss_cons (ps_set (i := 4) sc_law.nd rfl (.inl rfl) (pe_call (G__law_table T) (hr.mono (by decide)) (by rfl) T.m__law_table T.F__law_table.kp T.b__law_table .nil pass0 (by exact (pa_cons (pv 1) (pa_cons (pv 3) pa_nil))))) (pss_cons (ps_par (i := 5) (j := 6) (by rfl) sc_law.nd rfl rfl (by decide) rfl rfl (pa_cons (pe_callK (G_exact_weights T) (hr.mono (by decide)) (by rfl) T.m_exact_weights T.F_exact_weights.kp (kb_exact_weights T) passL (by exact (pk_cons (pv 4) pk_nil))) (pa_cons (pe_call (G__law_first T) (hr.mono (by decide)) (by rfl) T.m__law_first T.F__law_first.kp T.b__law_first .nil pass0 (by exact (pa_cons (pv 4) pa_nil))) pa_nil)) (by rfl)) (pss_cons (ps_if (PW.pt (pw_or (pt_not (pt_val (pe_callB (cr_isiK (K := K)) (by rfl) T.n_isinstance (by decide +kernel) (by exact (pa_cons (pv 5) (pa_cons (pe_bltn (v := .ty "tuple") rfl T.n_tuple (by decide +kernel) rfl) pa_nil)))))) (pw_or (pt_cmpR op_ne (pe_callB (cr_lenK (K := K)) (by rfl) T.n_len (by decide +kernel) (by exact (pa_cons (pv 5) pa_nil))) pe_int (nomark _)) (pw_or1 (PW.pt (pw_and (pt_cmpR op_lt (pv 3) pe_int (nomark _)) (pw_and1 (pt_cmp (pc_notN (pv 6)))))))))) (pss_one (ps_ret pe_bl)) pss_nil) (pss_cons (ps_if (PW.pt (pw_and (pt_cmp (pc_notN (pv 6))) (pw_and1 (pt_cmpR op_ne (pe_callB (cr_reprK (K := K) hg hu) (by rfl) T.n_repr (by decide +kernel) (by exact (pa_cons (pv 5) pa_nil))) (pe_callB (cr_reprK (K := K) hg hu) (by rfl) T.n_repr (by decide +kernel) (by exact (pa_cons (pe_tup (pa_cons pe_str (pa_cons (pv 6) pa_nil))) pa_nil))) (nomark _))))) (pss_one (ps_ret pe_bl)) pss_nil) (pss_cons (ps_if (PW.pt (pw_and (pt_cmp (pc_isN (pv 6))) (pw_and1 (PW.pt (pw_or (pt_cmpR op_ne (pe_callB (cr_reprK (K := K) hg hu) (by rfl) T.n_repr (by decide +kernel) (by exact (pa_cons (pe_ix (ix_tupK (K := K)) (pv 5) pe_int (fun _ _ => rfl)) pa_nil))) (pe_callB (cr_reprK (K := K) hg hu) (by rfl) T.n_repr (by decide +kernel) (by exact (pa_cons pe_str pa_nil))) (nomark _)) (pw_or1 (pt_not (pt_val (pe_call (G__law_follows T) (hr.mono (by decide)) (by rfl) T.m__law_follows T.F__law_follows.kp T.b__law_follows .nil pass0 (by exact (pa_cons (pv 4) (pa_cons (pe_ix (ix_tupK (K := K)) (pv 5) pe_int (fun _ _ => rfl)) pa_nil)))))))))))) (pss_one (ps_ret pe_bl)) pss_nil) (pss_cons (ps_if (PW.pt (pw_or (pt_cmpR op_ne (pe_callB (cr_reprK (K := K) hg hu) (by rfl) T.n_repr (by decide +kernel) (by exact (pa_cons (pe_call (G_is_exact T) (hr.mono (by decide)) (by rfl) T.m_is_exact T.F_is_exact.kp T.b_is_exact .nil pass0 (by exact (pa_cons (pv 4) (pa_cons (pv 5) pa_nil)))) pa_nil))) pe_str (nomark _)) (pw_or1 (pt_not (pt_val (pe_callR (G__law_bent_right T) (fun _ _ _ _ _ => ⟨hr.mono (by decide), hg⟩) (by rfl) T.m__law_bent_right T.F__law_bent_right.kp T.b__law_bent_right pass0 (by exact (pa_cons (pv 1) (pa_cons (pv 4) (pa_cons (pv 5) pa_nil)))))))))) (pss_one (ps_ret pe_bl)) pss_nil) (pss_cons (ps_set (i := 7) sc_law.nd rfl (.inl rfl) (pe_call (G__law_of T) (hr.mono (by decide)) (by rfl) T.m__law_of T.F__law_of.kp T.b__law_of .nil pass0 (by exact (pa_cons (pv 1) (pa_cons (pe_lst (pa_cons pe_non (pa_cons (pe_callTy (cr_listK (K := K)) (by rfl) T.n_list (by decide +kernel) (by exact (pa_cons (pv 5) pa_nil))) (pa_cons (pe_slice sl_tupW (pv 5) po_none (po_some pe_int)) (pa_cons (pe_ix (ix_tupK (K := K)) (pv 5) pe_int (fun _ _ => rfl)) (pa_cons (pe_tup (pa_cons pe_str (pa_cons pe_non pa_nil))) (pa_cons (pe_tup (pa_cons pe_str (pa_cons (pe_tup (pa_cons pe_int (pa_cons pe_int pa_nil))) pa_nil))) (pa_cons (pe_tup (pa_cons pe_str (pa_cons pe_non pa_nil))) (pa_cons (pe_op op_catW (pv 5) (pe_tup (pa_cons pe_int pa_nil))) (pa_cons (pe_tup (pa_cons (pe_ifExp (pt_cmpR op_eq (pe_ix (ix_tupK (K := K)) (pv 5) pe_int (fun _ _ => rfl)) pe_str (nomark _)) pe_str pe_str) (pa_cons (pe_ix (ix_tupK (K := K)) (pv 5) pe_int (fun _ _ => rfl)) pa_nil))) (pa_cons (pe_tup (pa_cons pe_str (pa_cons (pe_tup (pa_cons pe_int (pa_cons (pv 3) (pa_cons pe_int (pa_cons pe_int pa_nil))))) pa_nil))) (pa_cons (pe_tup (pa_cons pe_str (pa_cons (pe_tup (pa_cons pe_int (pa_cons pe_int (pa_cons pe_int (pa_cons pe_int pa_nil))))) pa_nil))) pa_nil)))))))))))) pa_nil))))) (pss_cons (ps_if (pt_cmpR op_ne (pe_callB (cr_reprK (K := K) hg hu) (by rfl) T.n_repr (by decide +kernel) (by exact (pa_cons (pe_call (G_is_exact T) (hr.mono (by decide)) (by rfl) T.m_is_exact T.F_is_exact.kp T.b_is_exact .nil pass0 (by exact (pa_cons (pv 4) (pa_cons (pv 7) pa_nil)))) pa_nil))) pe_str (nomark _)) (pss_one (ps_ret pe_bl)) pss_nil) (pss_cons (ps_asg (pe_call (G__law_network T) (hr.mono (by decide)) (by rfl) T.m__law_network T.F__law_network.kp T.b__law_network .nil pass0 (by exact (pa_cons (pv 1) (pa_cons (pv 3) (pa_cons (pe_op op_add pe_int (pe_call (G__law_any T) (hr.mono (by decide)) (by rfl) T.m__law_any T.F__law_any.kp T.b__law_any .nil pass0 (by exact (pa_cons (pv 1) (pa_cons pe_int pa_nil))))) pa_nil))))) (pg_tupK (K := K) (n := 2) (by rfl) (pgs_cons (pg_name (i := 8) sc_law.nd rfl (.inl rfl)) (pgs_cons (pg_name (i := 9) sc_law.nd rfl (.inl rfl)) pgs_nil)))) (pss_cons (ps_asg (pe_call (G__law_gains T) (hr.mono (by decide)) (by rfl) T.m__law_gains T.F__law_gains.kp T.b__law_gains .nil pass0 (by exact (pa_cons (pv 4) (pa_cons (pv 8) (pa_cons (pv 9) (pa_cons (pe_call (G__law_back T) (hr.mono (by decide)) (by rfl) T.m__law_back T.F__law_back.kp T.b__law_back .nil pass0 (by exact (pa_cons (pv 1) (pa_cons (pv 3) (pa_cons (pv 8) pa_nil))))) pa_nil)))))) (pg_tupK (K := K) (n := 2) (by rfl) (pgs_cons (pg_name (i := 10) sc_law.nd rfl (.inl rfl)) (pgs_cons (pg_name (i := 11) sc_law.nd rfl (.inl rfl)) pgs_nil)))) (pss_cons (ps_if (PW.pt (pw_or (pt_cmpR (op_neDK (K := K) hr.units) (pv 11) (pv 8) (nomark _)) (pw_or1 (PW.pt (pw_and (pt_cmp (pc_isN (pv 6))) (pw_and1 (pt_cmpR op_ne (pv 10) pe_int (nomark _)))))))) (pss_one (ps_ret pe_bl)) pss_nil) (pss_cons (ps_set (i := 12) sc_law.nd rfl (.inr rfl) (pe_call (G__law_of T) (hr.mono (by decide)) (by rfl) T.m__law_of T.F__law_of.kp T.b__law_of .nil pass0 (by exact (pa_cons (pv 1) (pa_cons (pe_lst (pa_cons pe_non (pa_cons (pe_callTy (cr_listK (K := K)) (by rfl) T.n_list (by decide +kernel) (by exact (pa_cons (pv 4) pa_nil))) (pa_cons (pe_op op_catW (pe_slice sl_tupW (pv 4) po_none (po_some pe_int)) (pe_tup (pa_cons pe_non pa_nil))) (pa_cons (pe_op op_catW (pv 4) (pe_tup (pa_cons (pe_ix (ix_tupK (K := K)) (pv 4) pe_int (fun _ _ => rfl)) pa_nil))) (pa_cons (pe_tup (pa_cons (pe_tup (pa_cons pe_int pa_nil)) pa_nil)) (pa_cons (pe_tup (pa_cons (pe_tup (pa_cons pe_bl pa_nil)) pa_nil)) (pa_cons (pe_tup pa_nil) (pa_cons pe_str pa_nil))))))))) pa_nil))))) (pss_one (ps_if (pt_cmpR (op_neDK (K := K) hr.units) (by exact (pe_lamcall (T := [(tM, qM)]) (TT := TTs T.c_InvalidScore) (Ng := ["work", "error"]) (a := "work") (k := 9) (by rfl) T.m__law_refused T.F__law_refused.kp lkR hcR bR sc__law_refused rfl (.inl rfl) (gives IS T.E_InvalidScore.gC gN) B rfl (.head _) (fun p hp _ => by rw [List.mem_singleton.mp hp]; rfl) (hr.mono (by decide)) (show LamS (defScope s_law) _ from lamS_by (by decide +kernel)) rfl (fun _ _ _ _ _ => rfl) (fun A' outer' s' H' E' f' c' hr' => (pe_call (G_exact_weights T) (hr'.mono (by decide)) (by rfl) T.m_exact_weights T.F_exact_weights.kp T.b_exact_weights .nil (passes_call (takes_of rfl rfl rfl rfl) fun _ _ _ _ z => z) (by exact (pa_cons (pv 12) pa_nil)))))) (pe_tup (pa_cons pe_str (pa_cons pe_int pa_nil))) (nomark _)) (pss_one (ps_ret pe_bl)) pss_nil)))))))))))))))) (pss_one (ps_ret pe_bl)))), ?_⟩
  clear hu
  obtain ⟨a, ns0, rfl, hS, htb, hQ⟩ := h
  walk_at "rd"
  refine ⟨a, ns0, 69, rfl, hS, by decide, by decide, fun H0 p q S0 np nq d0 => ?_⟩
  walk_at "rd"
  have tb0 : Tabs [(tM, qM)] H0 := fun z hz => by
    rw [List.mem_singleton.mp hz]
    exact ⟨#[], S0 _ _ htb, by show TriplesOk []; exact trivial, fun pos cv hc => by cases hc⟩
  clear hS S0 np nq htb
  refine ⟨by decide, by decide, ?_⟩
  refine for_range (lo := 0) (n := 2) (fun i σ H' => (∃ o2 o3 o4 o5 o6 o7 o8 o9 o10 o11 o12, σ = [some (.ref a), some (.ref p), o2, o3, o4, o5, o6, o7, o8, o9, o10, o11, o12]) ∧ Deal H' p q ∧ Tabs [(tM, qM)] H')
    ⟨⟨_, _, _, _, _, _, _, _, _, _, _, rfl⟩, d0, tb0⟩ (fun i σ H1 hi pv => ?_) (fun σ H' pv => ?_)
  · obtain ⟨⟨o2, o3, o4, o5, o6, o7, o8, o9, o10, o11, o12, rfl⟩, d1, tb1⟩ := pv
    clear d0 tb0
    walk_at "rd"
    intro l1 H2 z2 S2 hl1
    have d2 := d1.same S2
    have n2 := d1.nes z2
    walk_at "rd"
    refine ⟨p, q, l1, _, rfl, d2, n2.1, n2.2, hl1, by show 0 < 6; decide, by show 6 < 1000; decide, fun H3 x hx d3 f3 => ?_⟩
    obtain ⟨k, rfl, k1, k4⟩ : ∃ k : Nat, x = .int (k : Nat) ∧ 1 ≤ k ∧ k ≤ 4 := by
      simp only [List.mem_cons, List.not_mem_nil, or_false] at hx
      rcases hx with h | h | h | h | h | h <;> subst h
      · exact ⟨2, rfl, by decide, by decide⟩
      · exact ⟨3, rfl, by decide, by decide⟩
      · exact ⟨3, rfl, by decide, by decide⟩
      · exact ⟨3, rfl, by decide, by decide⟩
      · exact ⟨1, rfl, by decide, by decide⟩
      · exact ⟨4, rfl, by decide, by decide⟩
    have tb3 := tabs_fix (tb1.ext S2) d2 f3
    clear hx d1 d2 n2 hl1 f3 z2 S2 tb1
    walk_at "rd"
    refine ⟨p, q, k, rfl, d3, k1, k4, fun H4 t W d4 f4 hw g ok => ?_⟩
    have tb4 := tabs_fix tb3 d3 f4
    clear tb3 d3 f4
    walk_at "rd"
    refine rd_callK ?_
    walk_at "rd"
    refine ⟨rfl, spEW_of hw g ok fun H5 r S5 td => ?_⟩
    walk_at "rd"
    refine spF_of (hw.same S5) g fun H6 x S6 fi => ?_
    have td6 := td_same td S6
    have S46 := S5.trans S6
    have hw6 := hw.same S46
    have d6 := d4.same S46
    have tb6 := tb4.ext S46
    clear td hw S5 S6 S46 d4 tb4
    have isT : ∀ {H' : Hp} {a : Addr} {xs : List V} {R : VK}, Tup H' a xs → R (.bl true) H' → rIsi K [.ref a, .ty "tuple"] H' R := fun h q => ⟨_, _, _, _, true, rfl, .ty "tuple", h.ty, kit_ty (by decide +kernel), q⟩
    cases td6 with
    | @wts u n ht0 tm =>
      obtain ⟨_, rfl⟩ | ⟨q', f', n', _⟩ := fi
      case inr => rw [n] at n'; cases n'
      have dec := dec_none g n
      have gM := moved_tk g
      have ht := Tup.of ht0
      clear ht0
      walk_at "rd"
      refine isT ht ?_
      walk_at "rd"
      refine iteF' rfl ?_
      walk_at "rd"
      refine rd_lenTup ht ?_
      walk_at "rd"
      refine iteF' (nd_t rfl) ?_
      walk_at "rd"
      refine ite_both ?_ fun b => ?_
      rotate_left
      · walk_at "rd"
        refine rd_notN ?_
        walk_at "rd"
        rw [nonF]
        exact b
      walk_at "rd"
      refine rd_notN ?_
      walk_at "rd"
      rw [nonF]
      walk_at "rd"
      try with_reducible refine iteF' rfl ?_
      walk_at "rd"
      refine iteT' (by decide) ?_
      walk_at "rd"
      refine rd_ixT ht rfl ?_
      walk_at "rd"
      refine rd_repr (d := .str "weights") (.str _) rep_w.s rep_w.n rep_w.h rep_w.l ?_
      walk_at "rd"
      refine rd_repr (d := .str "weights") (.str _) rep_w.s rep_w.n rep_w.h rep_w.l ?_
      refine rd_neS ?_
      rw [decide_eq_true rfl]
      walk_at "rd"
      try with_reducible refine iteF' rfl ?_
      walk_at "rd"
      refine rd_ixT ht rfl ?_
      walk_at "rd"
      refine ⟨t, u, k, W, movedT k W, rfl, hw6, tm, g, gM, fun HA S7 => ?_⟩
      rw [dec.right k1]
      have hwA := hw6.same S7
      have dA := d6.same S7
      have tbA := tb6.ext S7
      have htA := ht.same S7
      have tmA := tm.same S7
      have exA : ExIs K HA k W (.ref r) true := by
        have e : (evenB k (movedT k W) && movB k W (movedT k W)) = true := right_eq.trans (dec.right k1)
        have z : ExIs K HA k W (.ref r) (evenB k (movedT k W) && movB k W (movedT k W)) := .wts htA tmA gM.l gM.r
        rw [e] at z
        exact z
      have tdA : TdIs HA k r := .wts htA tmA gM
      have zcA : ∀ H', Kept HA H' → (("round" : Str) = "round" ∧ ∃ M, TabAt H' u M ∧ Tk k M) ∨ (("round" : Str) = "weights" ∧ ∃ q : Four, Tup H' u [.int q.1, .int q.2.1, .int q.2.2.1, .int q.2.2.2]) := fun H' s => .inl ⟨rfl, _, tmA.kept s, gM⟩
      clear ht tm tmA hw6 d6 tb6 S7 gM
      walk_at "rd"
      try with_reducible refine iteF' rfl ?_
      generalize hσ : List.set _ 6 (some V.non) = σ6
      obtain rfl : [some (.ref a), some (.ref p), some (.int (0 + ((i : Nat) : Int))), some (.int (k : Nat)), some (.ref t), some (.ref r), some V.non, o7, o8, o9, o10, o11, o12] = σ6 := hσ
      walk_at "rd"
      refine ⟨t, k, W, .ref r, true, rfl, hwA, g, exA, fun HB SB => ?_⟩
      have rT := rep_bool true
      have rF := rep_bool false
      walk_at "rd"
      refine rd_repr (.bl _) rT.s rT.n rT.h rT.l ?_
      walk_at "rd"
      refine rd_neS ?_
      rw [shT]
      walk_at "rd"
      try with_reducible refine iteF' rfl ?_
      walk_at "rd"
      have dB := dA.same SB
      refine ⟨p, q, t, r, k, W, rfl, dB, hwA.same SB, g, tdA.same SB, fun HC dC fC => ?_⟩
      have KC := (Kept.same SB).trans (Kept.fix fC dB dC)
      have hwC := hwA.kept KC
      have htC := tup_kept htA KC
      have tbC := tabs_fix (tbA.ext SB) dB fC
      have zcC := fun H' (s : Kept HC H') => zcA H' (KC.trans s)
      clear hwA htA tbA zcA exA tdA KC dA dB SB fC
      walk_at "rd"
      try with_reducible refine iteF' rfl ?_
      walk_at "rd"
      refine rd_list (.inr htC.sq) ?_
      intro a1 Hb zb Sb h1
      walk_at "rd"
      refine rd_slW (htC.same Sb) fun Hd a2 Sd h2 => ?_
      rw [cut_take _ (by decide) (by show (1 : Int) ≤ ((2 : Nat) : Int); decide)] at h2
      walk_at "rd"
      refine rd_ixT ((htC.same Sb).same Sd) rfl ?_
      walk_at "rd"
      intro a5 He ze Se h5
      walk_at "rd"
      intro c6 Hf zf Sf g6
      walk_at "rd"
      intro a6 Hg zg Sg h6
      walk_at "rd"
      intro a7 Hh zh Sh h7
      walk_at "rd"
      intro b8 Hi zi Si h8b
      have SCi := (((((Sb.trans Sd).trans Se).trans Sf).trans Sg).trans Sh).trans Si
      refine rd_catW (htC.same SCi) (Tup.of h8b) (by show 2 + 1 ≤ 1000; decide) fun Hj a8 Sj h8 => ?_
      have SCj := SCi.trans Sj
      walk_at "rd"
      refine rd_ixT (htC.same SCj) rfl ?_
      walk_at "rd"
      refine rd_eqS ?_
      rw [decide_eq_true rfl]
      walk_at "rd"
      try with_reducible refine iteT' rfl ?_
      walk_at "rd"
      refine rd_ixT (htC.same SCj) rfl ?_
      walk_at "rd"
      intro a9 Hk zk Sk h9
      walk_at "rd"
      intro c10 Hl zl Sl g10
      walk_at "rd"
      intro a10 Hm zm Sm' h10
      walk_at "rd"
      intro c11 Hn zn Sn g11
      walk_at "rd"
      intro a11 Ho zo So h11
      walk_at "rd"
      intro lw Hp zp Sp hlw
      walk_at "rd"
      have sO := So.trans Sp
      have sN := Sn.trans sO
      have sM := Sm'.trans sN
      have sL := Sl.trans sM
      have sK := Sk.trans sL
      have sJ := Sj.trans sK
      have sI := Si.trans sJ
      have sH := Sh.trans sI
      have sG := Sg.trans sH
      have sF := Sf.trans sG
      have sE := Se.trans sF
      have sD := Sd.trans sE
      have sC := Sb.trans sD
      have dP := dC.same sC
      have nP := (dC.same ((((((SCj.trans Sk).trans Sl).trans Sm').trans Sn).trans So))).nes zp
      refine ⟨p, q, lw, _, rfl, dP, nP.1, nP.2, hlw, by show 0 < 11; decide, by show 11 < 1000; decide, fun Hq x hx dq fq => ?_⟩
      have Kq := Kept.fix fq dP dq
      have KCq := (Kept.same sC).trans Kq
      have hwq := hwC.kept KCq
      have tbq := tabs_fix (tbC.ext sC) dP fq
      have wx : ExIs K Hq k W x false := wrong_ok ⟨tup_kept htC KCq, Kq.ls a1 _ (sD _ _ h1), tup_kept (h2.same sE) Kq, tup_kept (Tup.of (sF _ _ h5)) Kq, tup_kept (Tup.of (sG _ _ g6)) Kq, tup_kept (Tup.of (sH _ _ h6)) Kq, tup_kept (Tup.of (sI _ _ h7)) Kq, tup_kept (h8.same sK) Kq, tup_kept (Tup.of (sL _ _ h9)) Kq, tup_kept (Tup.of (sM _ _ g10)) Kq, tup_kept (Tup.of (sN _ _ h10)) Kq, tup_kept (Tup.of (sO _ _ g11)) Kq, tup_kept (Tup.of (Sp _ _ h11)) Kq, zcC Hq KCq⟩ k1 x hx
      clear hx h1 h2 h5 g6 h6 h7 h8b h8 h9 g10 h10 g11 h11 hlw zcC htC hwC tbC zb ze zf zg zh zi zk zl zm zn zo zp sC sD sE sF sG sH sI sJ sK sL sM sN sO Sb Sd Se Sf Sg Sh Si Sj Sk Sl Sm' Sn So Sp SCi SCj nP dP dC fq Kq KCq
      walk_at "rd"
      refine ⟨t, k, W, x, false, rfl, hwq, g, wx, fun Hr Sr => ?_⟩
      walk_at "rd"
      refine rd_repr (.bl _) rF.s rF.n rF.h rF.l ?_
      walk_at "rd"
      refine rd_neS ?_
      rw [shF]
      walk_at "rd"
      try with_reducible refine iteF' rfl ?_
      have hwr := hwq.same Sr
      have dr := dq.same Sr
      have tbr := tbq.ext Sr
      clear wx hwq dq tbq Sr rT rF
      walk_at "rd"
      refine ⟨p, q, 6, rfl, dr, by decide, by decide, fun Hs m ds fs m0 m1 => ?_⟩
      walk_at "rd"
      obtain ⟨n0, hn0⟩ : ∃ n : Nat, 1 + m = (n : Nat) := Int.eq_ofNat_of_zero_le (by omega)
      rw [hn0]
      refine ⟨p, q, ((k : Nat) : Int), n0, rfl, ds, by omega, by omega, by omega, by omega, fun Ht tt am al ms ps L dt ft htt am0 al0 aml amp amq alp alq hms lms bms hps pL gL srt => ?_⟩
      have Kt := Kept.fix (fs.trans ft) dr dt
      have hwt := hwr.kept Kt
      have tbt := tabs_fix tbr dr (fs.trans ft)
      refine rd_gtup (Tup.of htt) rfl ?_
      subst lms
      have mI : MsIn k ms := fun y hy => bms y hy
      have lI : LkIn ms.length L := gL.rng
      have lL := good_len gL
      have m6 : 1 ≤ ms.length ∧ ms.length ≤ 6 := by omega
      clear htt am0 al0 aml bms hwr tbr dr fs ft Kt ds hn0
      walk_at "rd"
      refine ⟨p, q, am, k, ms, rfl, dt, amp, amq, hms, k1, k4, mI, by omega, by omega, fun Hu s S du fu s0 hS sS lS bk => ?_⟩
      have hwu := hwt.kept (Kept.fix fu dt du)
      have tbu := tabs_fix tbt dt fu
      have hmsu := fu _ _ amp amq hms
      have hpsu := fu _ _ alp alq hps
      have pLu : Paired (PairAt Hu) ps L := paired_mono pL fun _ _ z => fu.keep dt z fun _ y => by cases y
      walk_at "rd"
      refine ⟨t, am, al, s, k, W, ms, L, S, rfl, hwu, g, hmsu, ⟨ps, hpsu, pLu⟩, hS, ⟨mI, lI, sS, by omega, by omega, lS⟩, fun Hv rr bb Sv hrr hbb => ?_⟩
      refine rd_gtup (Tup.of hrr) rfl ?_
      rw [bk W L] at hbb
      have hmsv := Sv _ _ hmsu
      have hwv := hwu.same Sv
      have dv := du.same Sv
      have tbv := tbu.ext Sv
      walk_at "rd"
      refine ⟨.list (ms.map PyData.int), .list (ms.map PyData.int), dp_ints hbb, dp_ints hmsv, sh_ints _, sh_ints _, ?_⟩
      rw [show PyData.eqv (.list (ms.map PyData.int)) (.list (ms.map PyData.int)) = true from (dA_eqv _ _).trans (decide_eq_true rfl)]
      walk_at "rd"
      try with_reducible refine iteF' rfl ?_
      walk_at "rd"
      refine iteT' (by decide) ?_
      walk_at "rd"
      rw [gains_zero dec lI mI sS (bk W L)]
      try with_reducible refine iteF' rfl ?_
      clear hbb hmsv hrr hmsu hpsu pLu hS sS lS bk hms hps pL gL srt hwt tbt dt fu mI lI lL hwu du tbu Sv
      walk_at "rd"
      obtain ⟨qs, hqs, hpr⟩ := id hwv
      have lqs := paired_len hpr
      refine rd_list (.inr hqs.sq) ?_
      intro a2 Hb zb Sb h2
      walk_at "rd"
      refine rd_slW (hqs.same Sb) fun Hd b3 Sd h3a => ?_
      rw [cut_take _ (by decide) (by rw [List.length_map, lqs, g.l]; omega)] at h3a
      walk_at "rd"
      intro b3' He ze Se h3b
      refine rd_catW (h3a.same Se) (Tup.of h3b) (by rw [List.length_take]; show _ + 1 ≤ _; omega) fun Hf a3 Sf h3 => ?_
      have Sbf := ((Sb.trans Sd).trans Se).trans Sf
      walk_at "rd"
      refine rd_at2 (hwv.same Sbf) (by decide) (by rw [g.l]; omega) fun r0 hr0 => ?_
      walk_at "rd"
      intro b4 Hg zg Sg h4b
      refine rd_catW (hqs.same (Sbf.trans Sg)) (Tup.of h4b) (by rw [List.length_map, lqs, g.l]; show _ + 1 ≤ _; omega) fun Hh a4 Sh h4 => ?_
      walk_at "rd"
      intro c5 Hi zi Si g5
      walk_at "rd"
      intro a5 Hj zj Sj h5
      walk_at "rd"
      intro c6 Hk zk Sk g6
      walk_at "rd"
      intro a6 Hl zl Sl h6
      walk_at "rd"
      intro a7 Hm zm Sm' h7
      walk_at "rd"
      intro lb Hn zn Sn hlb
      walk_at "rd"
      have sM := Sm'.trans Sn
      have sL := Sl.trans sM
      have sK := Sk.trans sL
      have sJ := Sj.trans sK
      have sI := Si.trans sJ
      have sH := Sh.trans sI
      have sG := Sg.trans sH
      have sF := Sf.trans sG
      have sE := Se.trans sF
      have sD := Sd.trans sE
      have sB := Sb.trans sD
      have dN := dv.same sB
      have nN := (dv.same ((((((((Sbf.trans Sg).trans Sh).trans Si).trans Sj).trans Sk).trans Sl).trans Sm'))).nes zn
      refine ⟨p, q, lb, _, rfl, dN, nN.1, nN.2, hlb, by show 0 < 8; decide, by show 8 < 1000; decide, fun Ho x hx dO fO => ?_⟩
      have KO := Kept.fix fO dN dO
      have tbO := tabs_fix (tbv.ext sB) dN fO
      have bx : TbIs K Ho x false := bad_ok ⟨g, paired_mono hpr fun _ _ z => tup_kept (rowT_same z sB) KO, tup_kept (rowT_same hr0 sG) KO, KO.ls a2 _ (sD _ _ h2), tup_kept (h3.same sG) KO, tup_kept (h4.same sI) KO, tup_kept (Tup.of (sJ _ _ g5)) KO, tup_kept (Tup.of (sK _ _ h5)) KO, tup_kept (Tup.of (sL _ _ g6)) KO, tup_kept (Tup.of (sM _ _ h6)) KO, tup_kept (Tup.of (Sn _ _ h7)) KO⟩ x hx
      clear hx h2 h3a h3b h3 hr0 h4b h4 g5 h5 g6 h6 h7 hlb hqs hpr lqs zb ze zg zi zj zk zl zm zn Sb Sd Se Sf Sg Sh Si Sj Sk Sl Sm' Sn sB sD sE sF sG sH sI sJ sK sL sM Sbf nN dN fO KO tbv dv hwv
      walk_at "rd"
      refine rd_lam tbO fun HL eN tbL => rd_tts ?_
      walk_at "rd"
      refine ⟨x, rfl, .inl ⟨bx.kept (Kept.extN eN), told_s fun HM rM SM eM => ?_⟩⟩
      walk_at "rd"
      intro rt HN zN SN eW
      refine rd_neWord (SN _ _ eM) eW ?_
      walk_at "rd"
      try with_reducible refine iteF' rfl ?_
      walk_at "rd"
      exact ⟨⟨_, _, _, _, _, _, _, _, _, _, _, rfl⟩, ((dO.extN eN).same SM).same SN, (tbL.ext SM).ext SN⟩
    | @rnd f qf n ht0 ef =>
      obtain ⟨n', _⟩ | ⟨q', f', n', rfl, ef'⟩ := fi
      case inl => rw [n] at n'; cases n'
      have eq : q' = qf := by rw [n] at n'; exact (Option.some.inj n').symm
      subst eq
      have ht := Tup.of ht0
      walk_at "rd"
      refine isT ht ?_
      walk_at "rd"
      refine iteF' rfl ?_
      walk_at "rd"
      refine rd_lenTup ht ?_
      walk_at "rd"
      refine iteF' (nd_t rfl) ?_
      walk_at "rd"
      have ck : ¬ ((k : Nat) : Int) < 3 := fun c => by
        rw [two_none (W := W) (by omega)] at n
        cases n
      refine iteF' (decide_eq_false ck) ?_
      walk_at "rd"
      refine rd_notN ?_
      walk_at "rd"
      rw [refT]
      walk_at "rd"
      try with_reducible refine iteT' rfl ?_
      walk_at "rd"
      obtain ⟨mq, nz⟩ := first_mem n
      have rf := rep_four k4 mq
      refine rd_repr (dp_round ht0 ef) rf.s rf.n rf.h rf.l ?_
      walk_at "rd"
      intro v HA z7 S7 hv
      walk_at "rd"
      refine rd_repr (dp_round hv (S7 _ _ ef')) rf.s rf.n rf.h rf.l ?_
      refine rd_neS ?_
      rw [decide_eq_true rfl]
      walk_at "rd"
      try with_reducible refine iteF' rfl ?_
      walk_at "rd"
      rw [refF]
      walk_at "rd"
      try with_reducible refine iteF' rfl ?_
      have hwA := hw6.same S7
      have dA := d6.same S7
      have tbA := tb6.ext S7
      have htA := ht.same S7
      have efA : FourAt HA f q' := S7 _ _ ef
      have exA : ExIs K HA k W (.ref r) true := by
        obtain ⟨b1, b2, b3, b4⟩ := mem_quads.mp mq
        have z : ExIs K HA k W (.ref r) (!decide (rs4 W q' = 0)) := .rnd htA (Tup.of efA) b1 b2 b3 b4
        rw [nd_f nz] at z
        exact z
      have tdA : TdIs HA k r := .rnd htA
      have zcA : ∀ H', Kept HA H' → (("weights" : Str) = "round" ∧ ∃ M, TabAt H' f M ∧ Tk k M) ∨ (("weights" : Str) = "weights" ∧ ∃ q : Four, Tup H' f [.int q.1, .int q.2.1, .int q.2.2.1, .int q.2.2.2]) := fun H' s => .inr ⟨rfl, q', tup_kept (Tup.of efA) s⟩
      clear ht ht0 hw6 d6 tb6 S7 ef ef' efA hv z7 rf
      generalize hσ : List.set _ 6 (some (V.ref f')) = σ6
      obtain rfl : [some (.ref a), some (.ref p), some (.int (0 + ((i : Nat) : Int))), some (.int (k : Nat)), some (.ref t), some (.ref r), some (V.ref f'), o7, o8, o9, o10, o11, o12] = σ6 := hσ
      walk_at "rd"
      refine ⟨t, k, W, .ref r, true, rfl, hwA, g, exA, fun HB SB => ?_⟩
      have rT := rep_bool true
      have rF := rep_bool false
      walk_at "rd"
      refine rd_repr (.bl _) rT.s rT.n rT.h rT.l ?_
      walk_at "rd"
      refine rd_neS ?_
      rw [shT]
      walk_at "rd"
      try with_reducible refine iteF' rfl ?_
      walk_at "rd"
      have dB := dA.same SB
      refine ⟨p, q, t, r, k, W, rfl, dB, hwA.same SB, g, tdA.same SB, fun HC dC fC => ?_⟩
      have KC := (Kept.same SB).trans (Kept.fix fC dB dC)
      have hwC := hwA.kept KC
      have htC := tup_kept htA KC
      have tbC := tabs_fix (tbA.ext SB) dB fC
      have zcC := fun H' (s : Kept HC H') => zcA H' (KC.trans s)
      clear hwA htA tbA zcA exA tdA KC dA dB SB fC
      walk_at "rd"
      try with_reducible refine iteF' rfl ?_
      walk_at "rd"
      refine rd_list (.inr htC.sq) ?_
      intro a1 Hb zb Sb h1
      walk_at "rd"
      refine rd_slW (htC.same Sb) fun Hd a2 Sd h2 => ?_
      rw [cut_take _ (by decide) (by show (1 : Int) ≤ ((2 : Nat) : Int); decide)] at h2
      walk_at "rd"
      refine rd_ixT ((htC.same Sb).same Sd) rfl ?_
      walk_at "rd"
      intro a5 He ze Se h5
      walk_at "rd"
      intro c6 Hf zf Sf g6
      walk_at "rd"
      intro a6 Hg zg Sg h6
      walk_at "rd"
      intro a7 Hh zh Sh h7
      walk_at "rd"
      intro b8 Hi zi Si h8b
      have SCi := (((((Sb.trans Sd).trans Se).trans Sf).trans Sg).trans Sh).trans Si
      refine rd_catW (htC.same SCi) (Tup.of h8b) (by show 2 + 1 ≤ 1000; decide) fun Hj a8 Sj h8 => ?_
      have SCj := SCi.trans Sj
      walk_at "rd"
      refine rd_ixT (htC.same SCj) rfl ?_
      walk_at "rd"
      refine rd_eqS ?_
      rw [show decide ((("round" : Str)) = (("weights" : Str))) = false from by decide +kernel]
      walk_at "rd"
      try with_reducible refine iteF' rfl ?_
      walk_at "rd"
      refine rd_ixT (htC.same SCj) rfl ?_
      walk_at "rd"
      intro a9 Hk zk Sk h9
      walk_at "rd"
      intro c10 Hl zl Sl g10
      walk_at "rd"
      intro a10 Hm zm Sm' h10
      walk_at "rd"
      intro c11 Hn zn Sn g11
      walk_at "rd"
      intro a11 Ho zo So h11
      walk_at "rd"
      intro lw Hp zp Sp hlw
      walk_at "rd"
      have sO := So.trans Sp
      have sN := Sn.trans sO
      have sM := Sm'.trans sN
      have sL := Sl.trans sM
      have sK := Sk.trans sL
      have sJ := Sj.trans sK
      have sI := Si.trans sJ
      have sH := Sh.trans sI
      have sG := Sg.trans sH
      have sF := Sf.trans sG
      have sE := Se.trans sF
      have sD := Sd.trans sE
      have sC := Sb.trans sD
      have dP := dC.same sC
      have nP := (dC.same ((((((SCj.trans Sk).trans Sl).trans Sm').trans Sn).trans So))).nes zp
      refine ⟨p, q, lw, _, rfl, dP, nP.1, nP.2, hlw, by show 0 < 11; decide, by show 11 < 1000; decide, fun Hq x hx dq fq => ?_⟩
      have Kq := Kept.fix fq dP dq
      have KCq := (Kept.same sC).trans Kq
      have hwq := hwC.kept KCq
      have tbq := tabs_fix (tbC.ext sC) dP fq
      have wx : ExIs K Hq k W x false := wrong_ok ⟨tup_kept htC KCq, Kq.ls a1 _ (sD _ _ h1), tup_kept (h2.same sE) Kq, tup_kept (Tup.of (sF _ _ h5)) Kq, tup_kept (Tup.of (sG _ _ g6)) Kq, tup_kept (Tup.of (sH _ _ h6)) Kq, tup_kept (Tup.of (sI _ _ h7)) Kq, tup_kept (h8.same sK) Kq, tup_kept (Tup.of (sL _ _ h9)) Kq, tup_kept (Tup.of (sM _ _ g10)) Kq, tup_kept (Tup.of (sN _ _ h10)) Kq, tup_kept (Tup.of (sO _ _ g11)) Kq, tup_kept (Tup.of (Sp _ _ h11)) Kq, zcC Hq KCq⟩ k1 x hx
      clear hx h1 h2 h5 g6 h6 h7 h8b h8 h9 g10 h10 g11 h11 hlw zcC htC hwC tbC zb ze zf zg zh zi zk zl zm zn zo zp sC sD sE sF sG sH sI sJ sK sL sM sN sO Sb Sd Se Sf Sg Sh Si Sj Sk Sl Sm' Sn So Sp SCi SCj nP dP dC fq Kq KCq
      walk_at "rd"
      refine ⟨t, k, W, x, false, rfl, hwq, g, wx, fun Hr Sr => ?_⟩
      walk_at "rd"
      refine rd_repr (.bl _) rF.s rF.n rF.h rF.l ?_
      walk_at "rd"
      refine rd_neS ?_
      rw [shF]
      walk_at "rd"
      try with_reducible refine iteF' rfl ?_
      have hwr := hwq.same Sr
      have dr := dq.same Sr
      have tbr := tbq.ext Sr
      clear wx hwq dq tbq Sr rT rF
      walk_at "rd"
      refine ⟨p, q, 6, rfl, dr, by decide, by decide, fun Hs m ds fs m0 m1 => ?_⟩
      walk_at "rd"
      obtain ⟨n0, hn0⟩ : ∃ n : Nat, 1 + m = (n : Nat) := Int.eq_ofNat_of_zero_le (by omega)
      rw [hn0]
      refine ⟨p, q, ((k : Nat) : Int), n0, rfl, ds, by omega, by omega, by omega, by omega, fun Ht tt am al ms ps L dt ft htt am0 al0 aml amp amq alp alq hms lms bms hps pL gL srt => ?_⟩
      have Kt := Kept.fix (fs.trans ft) dr dt
      have hwt := hwr.kept Kt
      have tbt := tabs_fix tbr dr (fs.trans ft)
      refine rd_gtup (Tup.of htt) rfl ?_
      subst lms
      have mI : MsIn k ms := fun y hy => bms y hy
      have lI : LkIn ms.length L := gL.rng
      have lL := good_len gL
      have m6 : 1 ≤ ms.length ∧ ms.length ≤ 6 := by omega
      clear htt am0 al0 aml bms hwr tbr dr fs ft Kt ds hn0
      walk_at "rd"
      refine ⟨p, q, am, k, ms, rfl, dt, amp, amq, hms, k1, k4, mI, by omega, by omega, fun Hu s S du fu s0 hS sS lS bk => ?_⟩
      have hwu := hwt.kept (Kept.fix fu dt du)
      have tbu := tabs_fix tbt dt fu
      have hmsu := fu _ _ amp amq hms
      have hpsu := fu _ _ alp alq hps
      have pLu : Paired (PairAt Hu) ps L := paired_mono pL fun _ _ z => fu.keep dt z fun _ y => by cases y
      walk_at "rd"
      refine ⟨t, am, al, s, k, W, ms, L, S, rfl, hwu, g, hmsu, ⟨ps, hpsu, pLu⟩, hS, ⟨mI, lI, sS, by omega, by omega, lS⟩, fun Hv rr bb Sv hrr hbb => ?_⟩
      refine rd_gtup (Tup.of hrr) rfl ?_
      rw [bk W L] at hbb
      have hmsv := Sv _ _ hmsu
      have hwv := hwu.same Sv
      have dv := du.same Sv
      have tbv := tbu.ext Sv
      walk_at "rd"
      refine ⟨.list (ms.map PyData.int), .list (ms.map PyData.int), dp_ints hbb, dp_ints hmsv, sh_ints _, sh_ints _, ?_⟩
      rw [show PyData.eqv (.list (ms.map PyData.int)) (.list (ms.map PyData.int)) = true from (dA_eqv _ _).trans (decide_eq_true rfl)]
      walk_at "rd"
      try with_reducible refine iteF' rfl ?_
      walk_at "rd"
      rw [refF]
      try with_reducible refine iteF' rfl ?_
      clear hbb hmsv hrr hmsu hpsu pLu hS sS lS bk hms hps pL gL srt hwt tbt dt fu mI lI lL hwu du tbu Sv
      walk_at "rd"
      obtain ⟨qs, hqs, hpr⟩ := id hwv
      have lqs := paired_len hpr
      refine rd_list (.inr hqs.sq) ?_
      intro a2 Hb zb Sb h2
      walk_at "rd"
      refine rd_slW (hqs.same Sb) fun Hd b3 Sd h3a => ?_
      rw [cut_take _ (by decide) (by rw [List.length_map, lqs, g.l]; omega)] at h3a
      walk_at "rd"
      intro b3' He ze Se h3b
      refine rd_catW (h3a.same Se) (Tup.of h3b) (by rw [List.length_take]; show _ + 1 ≤ _; omega) fun Hf a3 Sf h3 => ?_
      have Sbf := ((Sb.trans Sd).trans Se).trans Sf
      walk_at "rd"
      refine rd_at2 (hwv.same Sbf) (by decide) (by rw [g.l]; omega) fun r0 hr0 => ?_
      walk_at "rd"
      intro b4 Hg zg Sg h4b
      refine rd_catW (hqs.same (Sbf.trans Sg)) (Tup.of h4b) (by rw [List.length_map, lqs, g.l]; show _ + 1 ≤ _; omega) fun Hh a4 Sh h4 => ?_
      walk_at "rd"
      intro c5 Hi zi Si g5
      walk_at "rd"
      intro a5 Hj zj Sj h5
      walk_at "rd"
      intro c6 Hk zk Sk g6
      walk_at "rd"
      intro a6 Hl zl Sl h6
      walk_at "rd"
      intro a7 Hm zm Sm' h7
      walk_at "rd"
      intro lb Hn zn Sn hlb
      walk_at "rd"
      have sM := Sm'.trans Sn
      have sL := Sl.trans sM
      have sK := Sk.trans sL
      have sJ := Sj.trans sK
      have sI := Si.trans sJ
      have sH := Sh.trans sI
      have sG := Sg.trans sH
      have sF := Sf.trans sG
      have sE := Se.trans sF
      have sD := Sd.trans sE
      have sB := Sb.trans sD
      have dN := dv.same sB
      have nN := (dv.same ((((((((Sbf.trans Sg).trans Sh).trans Si).trans Sj).trans Sk).trans Sl).trans Sm'))).nes zn
      refine ⟨p, q, lb, _, rfl, dN, nN.1, nN.2, hlb, by show 0 < 8; decide, by show 8 < 1000; decide, fun Ho x hx dO fO => ?_⟩
      have KO := Kept.fix fO dN dO
      have tbO := tabs_fix (tbv.ext sB) dN fO
      have bx : TbIs K Ho x false := bad_ok ⟨g, paired_mono hpr fun _ _ z => tup_kept (rowT_same z sB) KO, tup_kept (rowT_same hr0 sG) KO, KO.ls a2 _ (sD _ _ h2), tup_kept (h3.same sG) KO, tup_kept (h4.same sI) KO, tup_kept (Tup.of (sJ _ _ g5)) KO, tup_kept (Tup.of (sK _ _ h5)) KO, tup_kept (Tup.of (sL _ _ g6)) KO, tup_kept (Tup.of (sM _ _ h6)) KO, tup_kept (Tup.of (Sn _ _ h7)) KO⟩ x hx
      clear hx h2 h3a h3b h3 hr0 h4b h4 g5 h5 g6 h6 h7 hlb hqs hpr lqs zb ze zg zi zj zk zl zm zn Sb Sd Se Sf Sg Sh Si Sj Sk Sl Sm' Sn sB sD sE sF sG sH sI sJ sK sL sM Sbf nN dN fO KO tbv dv hwv
      walk_at "rd"
      refine rd_lam tbO fun HL eN tbL => rd_tts ?_
      walk_at "rd"
      refine ⟨x, rfl, .inl ⟨bx.kept (Kept.extN eN), told_s fun HM rM SM eM => ?_⟩⟩
      walk_at "rd"
      intro rt HN zN SN eW
      refine rd_neWord (SN _ _ eM) eW ?_
      walk_at "rd"
      try with_reducible refine iteF' rfl ?_
      walk_at "rd"
      exact ⟨⟨_, _, _, _, _, _, _, _, _, _, _, rfl⟩, ((dO.extN eN).same SM).same SN, (tbL.ext SM).ext SN⟩
  · obtain ⟨⟨o2, o3, o4, o5, o6, o7, o8, o9, o10, o11, o12, rfl⟩, _, _⟩ := pv
    walk_at "rd"
    exact hQ H'
end
end K69

namespace K69
open PySem PySem.Spec PyProof.Rows L2 L2H KX
/-! what the top has written, as one test -/
def ClsAt (K : PySem.W.Frag) (c : Addr) : Prop := ∃ nm q N bs bm sn sub ab col dd k0 k1 k2 k3 k5,
  K.lookup c = some (excClassObj nm q c N bs bm true sn sub ab col dd k0 k1 k2 k3 k5 "ValueError.__new__") ∧ PySem.HandSPX.refsVE bm = true
def IniAt (K : PySem.W.Frag) (qn : Str) (f : Addr) : Prop :=
  ∃ (oc : Value) (od : Option Addr) (doc pm : Value) (an : Option Addr) (cdv ct : Value) (osl : Array (Option Value)) (p1 p2 q1 q2 q3 q4 : Pos),
    K.lookup f = some ⟨oc, od, .func (PySem.W.fnOf "__init__" qn (PySem.ErrX.iA p1 p2) (PySem.ErrX.iB q1 q2 q3 q4) PySem.ErrX.iS .none .none doc pm an cdv ct), osl⟩ ∧
      PySem.W.codeIn K cdv qn = true
def okE (K : PySem.W.Frag) (c f cn : Addr) : Bool :=
  xfB K c && (decide (PySem.W.findIn K (.ref c) "at" = some none) &&
  (decide (PySem.W.findIn K (.ref c) "__setattr__" = some (some (.builtin "object.__setattr__"))) &&
  (decide (PySem.W.findIn K (.ref c) "__init__" = some (some (.ref f))) &&
  (decide (PySem.W.typeIn K (.ref f) = some (.type "function")) && (PySem.W.keepIn K (.ref c) &&
  (decide (PySem.W.typeIn K (.ref c) = some (.type "type")) && (decide (PySem.W.exmOne K (.ref c) (.ref c) = some true) &&
  (decide (PySem.W.findIn K (.ref c) "__class__" = some (some (.builtin "object.__class__"))) &&
  (decide (PySem.W.specialIn K (.builtin "object.__class__") "__get__" = some (some (.builtin "getset_descriptor.__get__"))) &&
  (decide (PySem.W.takesIn K (.builtin "object.__class__") = some true) && (decide (PySem.W.mroIn K c (.type "object") = some true) &&
  (decide (PySem.W.kitOne K (.ref c) (.type "ValueError") = some true) &&
   decide (PySem.W.exmOne K (.ref c) (.ref cn) = some true)))))))))))))
structure OkE (K : PySem.W.Frag) (c f cn : Addr) : Prop where
  xf : XfC K c
  no : PySem.W.findIn K (.ref c) "at" = some none
  sa : PySem.W.findIn K (.ref c) "__setattr__" = some (some (.builtin "object.__setattr__"))
  ini : PySem.W.findIn K (.ref c) "__init__" = some (some (.ref f))
  tf : PySem.W.typeIn K (.ref f) = some (.type "function")
  kc : PySem.W.keepIn K (.ref c) = true
  ty : PySem.W.typeIn K (.ref c) = some (.type "type")
  te : PySem.W.exmOne K (.ref c) (.ref c) = some true
  ha : PySem.W.findIn K (.ref c) "__class__" = some (some (.builtin "object.__class__"))
  hn : PySem.W.specialIn K (.builtin "object.__class__") "__get__" = some (some (.builtin "getset_descriptor.__get__"))
  ht : PySem.W.takesIn K (.builtin "object.__class__") = some true
  hm : PySem.W.mroIn K c (.type "object") = some true
  ve : PySem.W.kitOne K (.ref c) (.type "ValueError") = some true
  exm : PySem.W.exmOne K (.ref c) (.ref cn) = some true
theorem okE_ok {K : PySem.W.Frag} {c f cn : Addr} (h : okE K c f cn = true) : OkE K c f cn := by
  unfold okE at h
  simp only [Bool.and_eq_true, decide_eq_true_eq] at h
  obtain ⟨h1, h2, h3, h4, h5, h6, h7, h8, h9, h10, h11, h12, h13, h14⟩ := h
  exact ⟨xfB_ok h1, h2, h3, h4, h5, h6, h7, h8, h9, h10, h11, h12, h13, h14⟩
theorem err_of {K : PySem.W.Frag} {mg : Str → Option Value} {en qn : Str} {c f cn : Addr} (z : OkE K c f cn)
    (g : mg en = some (.ref c)) (hc : ClsAt K c) (hf : IniAt K qn f) : PySem.ErrX.ErrTxt K mg en qn c f :=
  ⟨g, hc, z.sa, z.xf.ga, z.xf.gg, z.no, z.ini, z.tf, z.kc, z.xf.exC, z.ty, z.xf.hdC, z.te, hf⟩
/-- a def of the top, or of a class, at f -/
def DefAt (K : PySem.W.Frag) (x q : Str) (st : Stmt) (f : Addr) : Prop :=
  ∃ (oc : Value) (od : Option Addr) (kV doc pm : Value) (an : Option Addr) (cdv ct : Value) (osl : Array (Option Value)),
    K.lookup f = some ⟨oc, od, .func (PySem.W.fnOf x q (defArgs st) (defBody st) (defScope st) .none kV doc pm an cdv ct), osl⟩ ∧
      PySem.W.codeIn K cdv q = true
theorem fun_of {K : PySem.W.Frag} {x q : Str} {st : Stmt} {f : Addr} (h : DefAt K x q st f) (k : PySem.W.keepIn K (.ref f) = true) :
    ∃ fd kV doc pm an cdv ct, fd = PySem.W.fnOf x q (defArgs st) (defBody st) (defScope st) .none kV doc pm an cdv ct ∧ Fun K x q st f fd := by
  obtain ⟨oc, od, kV, doc, pm, an, cdv, ct, osl, l, c⟩ := h
  exact ⟨_, kV, doc, pm, an, cdv, ct, rfl, fun_mk l c k⟩
/-- a def whose code object is known -/
def DefCAt (K : PySem.W.Frag) (x : Str) (st : Stmt) (f c : Addr) : Prop :=
  ∃ (oc : Value) (od : Option Addr) (kV doc pm : Value) (an : Option Addr) (ct : Value) (osl : Array (Option Value)),
    K.lookup f = some ⟨oc, od, .func (PySem.W.fnOf x x (defArgs st) (defBody st) (defScope st) .none kV doc pm an (.ref c) ct), osl⟩ ∧ PySem.W.codeIn K (.ref c) x = true
theorem defC_of {K : PySem.W.Frag} {x : Str} {st : Stmt} {f c : Addr} (h : DefCAt K x st f c) (k : PySem.W.keepIn K (.ref f) = true) : ∃ fd, DefC K x st f c fd ∧ Fun K x x st f fd := by
  obtain ⟨oc, od, kV, doc, pm, an, ct, osl, l, hc⟩ := h
  exact ⟨_, ⟨oc, od, kV, doc, pm, an, ct, osl, rfl, l, hc⟩, fun_mk l hc k⟩
/-- what is asked of a class with an own == -/
def okC (K : PySem.W.Frag) (c i e : Addr) (fs : List Str) : Bool :=
  PySem.W.plainGet K c Str.empty && (PySem.W.hasDictIn K c && (PySem.W.plainOver K c &&
  (decide (PySem.W.findIn K (.ref c) "__setattr__" = some (some (.builtin "object.__setattr__"))) &&
  (fs.all (fun f => decide (PySem.W.findIn K (.ref c) f = some none)) && (PySem.W.makesIn K c &&
  (decide (PySem.W.findIn K (.ref c) "__init__" = some (some (.ref i))) && (PySem.W.isFn K (.ref i) && (PySem.W.keepIn K (.ref c) &&
  (decide (PySem.W.findIn K (.ref c) "__class__" = some (some (.builtin "object.__class__"))) &&
  (decide (PySem.W.specialIn K (.builtin "object.__class__") "__get__" = some (some (.builtin "getset_descriptor.__get__"))) &&
  (decide (PySem.W.takesIn K (.builtin "object.__class__") = some true) && (decide (PySem.W.mroIn K c (.type "object") = some true) &&
  (decide (PySem.W.kitOne K (.ref c) (.ref c) = some true) &&
  (decide (PySem.W.findIn K (.ref c) "__eq__" = some (some (.ref e))) && (PySem.W.isFn K (.ref e) &&
  (decide (PySem.W.findIn K (.ref c) "__ne__" = some (some (.builtin "object.__ne__"))) &&
  (PySem.W.notFirst K c (.type "tuple") && decide (PySem.W.kitOne K (.type "tuple") (.ref c) = some false))))))))))))))))))
structure KCl (K : PySem.W.Frag) (c i e : Addr) (fs : List Str) : Prop where
  cls : Cls K c
  no : ∀ f ∈ fs, NoAttr K c f
  mks : Mk K c i
  isi : IsCls K c
  own : OwnC K c e
  nf : PySem.W.notFirst K c (.type "tuple") = true
  kt : PySem.W.kitOne K (.type "tuple") (.ref c) = some false
theorem okC_ok {K : PySem.W.Frag} {c i e : Addr} {fs : List Str} (h : okC K c i e fs = true) : KCl K c i e fs := by
  unfold okC at h
  simp only [Bool.and_eq_true, decide_eq_true_eq, List.all_eq_true] at h
  obtain ⟨h1, h2, h3, h4, h5, h6, h7, h8, h9, h10, h11, h12, h13, h14, h15, h16, h17, h18, h19⟩ := h
  have C : Cls K c := ⟨h1, h2, h3, h4⟩
  exact ⟨C, fun f hf => h5 f hf, ⟨h6, h7, h8, h9⟩, ⟨C, h10, h11, h12, h13, h14⟩, ⟨h15, h16, h17, h13⟩, h18, h19⟩
theorem all3 {α : Type} {P : α → Prop} {x y z : α} (a : P x) (b : P y) (c : P z) : ∀ p ∈ [x, y, z], P p := fun p hp => by
  simp only [List.mem_cons, List.not_mem_nil, or_false] at hp
  rcases hp with rfl | rfl | rfl <;> assumption
theorem all_mk {l : PySem.W.OpenLaw} {w : World} {K : PySem.W.Frag} {h : Heap} {mg : Str → Option Value} {fa : Addr} (X : K.In h)
    (G : h.Ns mainGlobals mg) (hfa : mg "law" = some (.ref fa))
    {f_is_integer f_is_number f_is_below f_is_tuple_of f_is_told f_are_rows f_is_even_table f_is_table f_check_table f_gain f_lead f_round_sum f_exact_weights f_is_exact f_is_moved_alike f__law_draw f__law_any f__law_of f__law_links f__law_network f__law_table f__law_refused f__law_gains f__law_around f__law_first f__law_follows f__law_back f__law_bent_right f_law c_InvalidScore i_InvalidScore cc tb cn : Addr} {t_MOST_MODES t_MOST_GAIN : Tok}
    (a_InvalidScore : PySem.W.nsIn K mainGlobals "InvalidScore" = some (some (.ref c_InvalidScore)))
    (i__InvalidScore : PySem.W.findIn K (.ref c_InvalidScore) "__init__" = some (some (.ref i_InvalidScore)))
    (ok_InvalidScore : okE K c_InvalidScore i_InvalidScore c_InvalidScore = true)
    (x_InvalidScore : ClsAt K c_InvalidScore)
    (y_InvalidScore : IniAt K "InvalidScore.__init__" i_InvalidScore)
    (g_MOST_MODES : PySem.W.nsIn K mainGlobals "MOST_MODES" = some (some (.int 4 t_MOST_MODES)))
    (g_MOST_GAIN : PySem.W.nsIn K mainGlobals "MOST_GAIN" = some (some (.int 1000 t_MOST_GAIN)))
    (g_is_integer : PySem.W.nsIn K mainGlobals "is_integer" = some (some (.ref f_is_integer)))
    (e_is_integer : DefAt K "is_integer" "is_integer" s_is_integer f_is_integer)
    (k_is_integer : PySem.W.keepIn K (.ref f_is_integer) = true)
    (g_is_number : PySem.W.nsIn K mainGlobals "is_number" = some (some (.ref f_is_number)))
    (e_is_number : DefAt K "is_number" "is_number" s_is_number f_is_number)
    (k_is_number : PySem.W.keepIn K (.ref f_is_number) = true)
    (g_is_below : PySem.W.nsIn K mainGlobals "is_below" = some (some (.ref f_is_below)))
    (e_is_below : DefAt K "is_below" "is_below" s_is_below f_is_below)
    (k_is_below : PySem.W.keepIn K (.ref f_is_below) = true)
    (g_is_tuple_of : PySem.W.nsIn K mainGlobals "is_tuple_of" = some (some (.ref f_is_tuple_of)))
    (e_is_tuple_of : DefAt K "is_tuple_of" "is_tuple_of" s_is_tuple_of f_is_tuple_of)
    (k_is_tuple_of : PySem.W.keepIn K (.ref f_is_tuple_of) = true)
    (g_is_told : PySem.W.nsIn K mainGlobals "is_told" = some (some (.ref f_is_told)))
    (e_is_told : DefAt K "is_told" "is_told" s_is_told f_is_told)
    (k_is_told : PySem.W.keepIn K (.ref f_is_told) = true)
    (g_are_rows : PySem.W.nsIn K mainGlobals "are_rows" = some (some (.ref f_are_rows)))
    (e_are_rows : DefAt K "are_rows" "are_rows" s_are_rows f_are_rows)
    (k_are_rows : PySem.W.keepIn K (.ref f_are_rows) = true)
    (g_is_even_table : PySem.W.nsIn K mainGlobals "is_even_table" = some (some (.ref f_is_even_table)))
    (e_is_even_table : DefAt K "is_even_table" "is_even_table" s_is_even_table f_is_even_table)
    (k_is_even_table : PySem.W.keepIn K (.ref f_is_even_table) = true)
    (g_is_table : PySem.W.nsIn K mainGlobals "is_table" = some (some (.ref f_is_table)))
    (e_is_table : DefAt K "is_table" "is_table" s_is_table f_is_table)
    (k_is_table : PySem.W.keepIn K (.ref f_is_table) = true)
    (g_check_table : PySem.W.nsIn K mainGlobals "check_table" = some (some (.ref f_check_table)))
    (e_check_table : DefAt K "check_table" "check_table" s_check_table f_check_table)
    (k_check_table : PySem.W.keepIn K (.ref f_check_table) = true)
    (g_gain : PySem.W.nsIn K mainGlobals "gain" = some (some (.ref f_gain)))
    (e_gain : DefAt K "gain" "gain" s_gain f_gain)
    (k_gain : PySem.W.keepIn K (.ref f_gain) = true)
    (g_lead : PySem.W.nsIn K mainGlobals "lead" = some (some (.ref f_lead)))
    (e_lead : DefAt K "lead" "lead" s_lead f_lead)
    (k_lead : PySem.W.keepIn K (.ref f_lead) = true)
    (g_round_sum : PySem.W.nsIn K mainGlobals "round_sum" = some (some (.ref f_round_sum)))
    (e_round_sum : DefAt K "round_sum" "round_sum" s_round_sum f_round_sum)
    (k_round_sum : PySem.W.keepIn K (.ref f_round_sum) = true)
    (g_exact_weights : PySem.W.nsIn K mainGlobals "exact_weights" = some (some (.ref f_exact_weights)))
    (e_exact_weights : DefAt K "exact_weights" "exact_weights" s_exact_weights f_exact_weights)
    (k_exact_weights : PySem.W.keepIn K (.ref f_exact_weights) = true)
    (g_is_exact : PySem.W.nsIn K mainGlobals "is_exact" = some (some (.ref f_is_exact)))
    (e_is_exact : DefAt K "is_exact" "is_exact" s_is_exact f_is_exact)
    (k_is_exact : PySem.W.keepIn K (.ref f_is_exact) = true)
    (g_is_moved_alike : PySem.W.nsIn K mainGlobals "is_moved_alike" = some (some (.ref f_is_moved_alike)))
    (e_is_moved_alike : DefAt K "is_moved_alike" "is_moved_alike" s_is_moved_alike f_is_moved_alike)
    (k_is_moved_alike : PySem.W.keepIn K (.ref f_is_moved_alike) = true)
    (g__law_draw : PySem.W.nsIn K mainGlobals "_law_draw" = some (some (.ref f__law_draw)))
    (e__law_draw : DefAt K "_law_draw" "_law_draw" s__law_draw f__law_draw)
    (k__law_draw : PySem.W.keepIn K (.ref f__law_draw) = true)
    (g__law_any : PySem.W.nsIn K mainGlobals "_law_any" = some (some (.ref f__law_any)))
    (e__law_any : DefAt K "_law_any" "_law_any" s__law_any f__law_any)
    (k__law_any : PySem.W.keepIn K (.ref f__law_any) = true)
    (g__law_of : PySem.W.nsIn K mainGlobals "_law_of" = some (some (.ref f__law_of)))
    (e__law_of : DefAt K "_law_of" "_law_of" s__law_of f__law_of)
    (k__law_of : PySem.W.keepIn K (.ref f__law_of) = true)
    (g__law_links : PySem.W.nsIn K mainGlobals "_law_links" = some (some (.ref f__law_links)))
    (e__law_links : DefAt K "_law_links" "_law_links" s__law_links f__law_links)
    (k__law_links : PySem.W.keepIn K (.ref f__law_links) = true)
    (g__law_network : PySem.W.nsIn K mainGlobals "_law_network" = some (some (.ref f__law_network)))
    (e__law_network : DefAt K "_law_network" "_law_network" s__law_network f__law_network)
    (k__law_network : PySem.W.keepIn K (.ref f__law_network) = true)
    (g__law_table : PySem.W.nsIn K mainGlobals "_law_table" = some (some (.ref f__law_table)))
    (e__law_table : DefAt K "_law_table" "_law_table" s__law_table f__law_table)
    (k__law_table : PySem.W.keepIn K (.ref f__law_table) = true)
    (g__law_refused : PySem.W.nsIn K mainGlobals "_law_refused" = some (some (.ref f__law_refused)))
    (e__law_refused : DefAt K "_law_refused" "_law_refused" s__law_refused f__law_refused)
    (k__law_refused : PySem.W.keepIn K (.ref f__law_refused) = true)
    (g__law_gains : PySem.W.nsIn K mainGlobals "_law_gains" = some (some (.ref f__law_gains)))
    (e__law_gains : DefAt K "_law_gains" "_law_gains" s__law_gains f__law_gains)
    (k__law_gains : PySem.W.keepIn K (.ref f__law_gains) = true)
    (g__law_around : PySem.W.nsIn K mainGlobals "_law_around" = some (some (.ref f__law_around)))
    (e__law_around : DefAt K "_law_around" "_law_around" s__law_around f__law_around)
    (k__law_around : PySem.W.keepIn K (.ref f__law_around) = true)
    (g__law_first : PySem.W.nsIn K mainGlobals "_law_first" = some (some (.ref f__law_first)))
    (e__law_first : DefAt K "_law_first" "_law_first" s__law_first f__law_first)
    (k__law_first : PySem.W.keepIn K (.ref f__law_first) = true)
    (g__law_follows : PySem.W.nsIn K mainGlobals "_law_follows" = some (some (.ref f__law_follows)))
    (e__law_follows : DefAt K "_law_follows" "_law_follows" s__law_follows f__law_follows)
    (k__law_follows : PySem.W.keepIn K (.ref f__law_follows) = true)
    (g__law_back : PySem.W.nsIn K mainGlobals "_law_back" = some (some (.ref f__law_back)))
    (e__law_back : DefAt K "_law_back" "_law_back" s__law_back f__law_back)
    (k__law_back : PySem.W.keepIn K (.ref f__law_back) = true)
    (g__law_bent_right : PySem.W.nsIn K mainGlobals "_law_bent_right" = some (some (.ref f__law_bent_right)))
    (e__law_bent_right : DefAt K "_law_bent_right" "_law_bent_right" s__law_bent_right f__law_bent_right)
    (k__law_bent_right : PySem.W.keepIn K (.ref f__law_bent_right) = true)
    (g_law : PySem.W.nsIn K mainGlobals "law" = some (some (.ref f_law)))
    (e_law : DefCAt K "law" s_law f_law cc)
    (k_law : PySem.W.keepIn K (.ref f_law) = true)
    (a_NetError : PySem.W.nsIn K mainGlobals "NetError" = some (some (.ref cn)))
    (z_int : PySem.W.nsIn K mainGlobals "int" = some none)
    (z_bool : PySem.W.nsIn K mainGlobals "bool" = some none)
    (z_str : PySem.W.nsIn K mainGlobals "str" = some none)
    (z_abs : PySem.W.nsIn K mainGlobals "abs" = some none)
    (z_len : PySem.W.nsIn K mainGlobals "len" = some none)
    (z_min : PySem.W.nsIn K mainGlobals "min" = some none)
    (z_max : PySem.W.nsIn K mainGlobals "max" = some none)
    (z_sorted : PySem.W.nsIn K mainGlobals "sorted" = some none)
    (z_tuple : PySem.W.nsIn K mainGlobals "tuple" = some none)
    (z_list : PySem.W.nsIn K mainGlobals "list" = some none)
    (z_range : PySem.W.nsIn K mainGlobals "range" = some none)
    (z_repr : PySem.W.nsIn K mainGlobals "repr" = some none)
    (z_isinstance : PySem.W.nsIn K mainGlobals "isinstance" = some none)
    (z_all : PySem.W.nsIn K mainGlobals "all" = some none)
    (z_sum : PySem.W.nsIn K mainGlobals "sum" = some none)
    (z_zip : PySem.W.nsIn K mainGlobals "zip" = some none)
    : ∃ fd : FuncData, (∀ (s : Shared) (u : Value), BindsTo s fd ⟨[u], []⟩ [("script", u)]) ∧
      ∀ base : Heap, K.In base → base.Ns mainGlobals mg → LamX.TabB base mg cc tb → FnR l.prog w K mg base CX0 (CG 13) fa fd ["script"] (spLaw tb K) := by
  have e := hfa.symm.trans (PySem.W.mg_of X G g_law)
  cases e
  have OK_InvalidScore := okE_ok ok_InvalidScore
  have EE_InvalidScore : PySem.ErrX.ErrTxt K mg "InvalidScore" "InvalidScore.__init__" c_InvalidScore i_InvalidScore := err_of OK_InvalidScore (PySem.W.mg_of X G a_InvalidScore) x_InvalidScore y_InvalidScore
  obtain ⟨d_is_integer, _, _, _, _, _, _, _, F_is_integer⟩ := fun_of e_is_integer k_is_integer
  obtain ⟨d_is_number, _, _, _, _, _, _, _, F_is_number⟩ := fun_of e_is_number k_is_number
  obtain ⟨d_is_below, _, _, _, _, _, _, _, F_is_below⟩ := fun_of e_is_below k_is_below
  obtain ⟨d_is_tuple_of, _, _, _, _, _, _, _, F_is_tuple_of⟩ := fun_of e_is_tuple_of k_is_tuple_of
  obtain ⟨d_is_told, _, _, _, _, _, _, _, F_is_told⟩ := fun_of e_is_told k_is_told
  obtain ⟨d_are_rows, _, _, _, _, _, _, _, F_are_rows⟩ := fun_of e_are_rows k_are_rows
  obtain ⟨d_is_even_table, _, _, _, _, _, _, _, F_is_even_table⟩ := fun_of e_is_even_table k_is_even_table
  obtain ⟨d_is_table, _, _, _, _, _, _, _, F_is_table⟩ := fun_of e_is_table k_is_table
  obtain ⟨d_check_table, _, _, _, _, _, _, _, F_check_table⟩ := fun_of e_check_table k_check_table
  obtain ⟨d_gain, _, _, _, _, _, _, _, F_gain⟩ := fun_of e_gain k_gain
  obtain ⟨d_lead, _, _, _, _, _, _, _, F_lead⟩ := fun_of e_lead k_lead
  obtain ⟨d_round_sum, _, _, _, _, _, _, _, F_round_sum⟩ := fun_of e_round_sum k_round_sum
  obtain ⟨d_exact_weights, _, _, _, _, _, _, _, F_exact_weights⟩ := fun_of e_exact_weights k_exact_weights
  obtain ⟨d_is_exact, _, _, _, _, _, _, _, F_is_exact⟩ := fun_of e_is_exact k_is_exact
  obtain ⟨d_is_moved_alike, _, _, _, _, _, _, _, F_is_moved_alike⟩ := fun_of e_is_moved_alike k_is_moved_alike
  obtain ⟨d__law_draw, _, _, _, _, _, _, _, F__law_draw⟩ := fun_of e__law_draw k__law_draw
  obtain ⟨d__law_any, _, _, _, _, _, _, _, F__law_any⟩ := fun_of e__law_any k__law_any
  obtain ⟨d__law_of, _, _, _, _, _, _, _, F__law_of⟩ := fun_of e__law_of k__law_of
  obtain ⟨d__law_links, _, _, _, _, _, _, _, F__law_links⟩ := fun_of e__law_links k__law_links
  obtain ⟨d__law_network, _, _, _, _, _, _, _, F__law_network⟩ := fun_of e__law_network k__law_network
  obtain ⟨d__law_table, _, _, _, _, _, _, _, F__law_table⟩ := fun_of e__law_table k__law_table
  obtain ⟨d__law_refused, _, _, _, _, _, _, _, F__law_refused⟩ := fun_of e__law_refused k__law_refused
  obtain ⟨d__law_gains, _, _, _, _, _, _, _, F__law_gains⟩ := fun_of e__law_gains k__law_gains
  obtain ⟨d__law_around, _, _, _, _, _, _, _, F__law_around⟩ := fun_of e__law_around k__law_around
  obtain ⟨d__law_first, _, _, _, _, _, _, _, F__law_first⟩ := fun_of e__law_first k__law_first
  obtain ⟨d__law_follows, _, _, _, _, _, _, _, F__law_follows⟩ := fun_of e__law_follows k__law_follows
  obtain ⟨d__law_back, _, _, _, _, _, _, _, F__law_back⟩ := fun_of e__law_back k__law_back
  obtain ⟨d__law_bent_right, _, _, _, _, _, _, _, F__law_bent_right⟩ := fun_of e__law_bent_right k__law_bent_right
  obtain ⟨d_law, DC_law, F_law⟩ := defC_of e_law k_law
  obtain ⟨u0, u1, u2, u3, u4, u5, u6, u7, eu, _⟩ := id DC_law
  let T : TX K mg := {
    f_is_integer := f_is_integer, d_is_integer := d_is_integer, F_is_integer := F_is_integer, m_is_integer := PySem.W.mg_of X G g_is_integer,
    f_is_number := f_is_number, d_is_number := d_is_number, F_is_number := F_is_number, m_is_number := PySem.W.mg_of X G g_is_number,
    f_is_below := f_is_below, d_is_below := d_is_below, F_is_below := F_is_below, m_is_below := PySem.W.mg_of X G g_is_below,
    f_is_tuple_of := f_is_tuple_of, d_is_tuple_of := d_is_tuple_of, F_is_tuple_of := F_is_tuple_of, m_is_tuple_of := PySem.W.mg_of X G g_is_tuple_of,
    f_is_told := f_is_told, d_is_told := d_is_told, F_is_told := F_is_told, m_is_told := PySem.W.mg_of X G g_is_told,
    f_are_rows := f_are_rows, d_are_rows := d_are_rows, F_are_rows := F_are_rows, m_are_rows := PySem.W.mg_of X G g_are_rows,
    f_is_even_table := f_is_even_table, d_is_even_table := d_is_even_table, F_is_even_table := F_is_even_table, m_is_even_table := PySem.W.mg_of X G g_is_even_table,
    f_is_table := f_is_table, d_is_table := d_is_table, F_is_table := F_is_table, m_is_table := PySem.W.mg_of X G g_is_table,
    f_check_table := f_check_table, d_check_table := d_check_table, F_check_table := F_check_table, m_check_table := PySem.W.mg_of X G g_check_table,
    f_gain := f_gain, d_gain := d_gain, F_gain := F_gain, m_gain := PySem.W.mg_of X G g_gain,
    f_lead := f_lead, d_lead := d_lead, F_lead := F_lead, m_lead := PySem.W.mg_of X G g_lead,
    f_round_sum := f_round_sum, d_round_sum := d_round_sum, F_round_sum := F_round_sum, m_round_sum := PySem.W.mg_of X G g_round_sum,
    f_exact_weights := f_exact_weights, d_exact_weights := d_exact_weights, F_exact_weights := F_exact_weights, m_exact_weights := PySem.W.mg_of X G g_exact_weights,
    f_is_exact := f_is_exact, d_is_exact := d_is_exact, F_is_exact := F_is_exact, m_is_exact := PySem.W.mg_of X G g_is_exact,
    f_is_moved_alike := f_is_moved_alike, d_is_moved_alike := d_is_moved_alike, F_is_moved_alike := F_is_moved_alike, m_is_moved_alike := PySem.W.mg_of X G g_is_moved_alike,
    f__law_draw := f__law_draw, d__law_draw := d__law_draw, F__law_draw := F__law_draw, m__law_draw := PySem.W.mg_of X G g__law_draw,
    f__law_any := f__law_any, d__law_any := d__law_any, F__law_any := F__law_any, m__law_any := PySem.W.mg_of X G g__law_any,
    f__law_of := f__law_of, d__law_of := d__law_of, F__law_of := F__law_of, m__law_of := PySem.W.mg_of X G g__law_of,
    f__law_links := f__law_links, d__law_links := d__law_links, F__law_links := F__law_links, m__law_links := PySem.W.mg_of X G g__law_links,
    f__law_network := f__law_network, d__law_network := d__law_network, F__law_network := F__law_network, m__law_network := PySem.W.mg_of X G g__law_network,
    f__law_table := f__law_table, d__law_table := d__law_table, F__law_table := F__law_table, m__law_table := PySem.W.mg_of X G g__law_table,
    f__law_refused := f__law_refused, d__law_refused := d__law_refused, F__law_refused := F__law_refused, m__law_refused := PySem.W.mg_of X G g__law_refused,
    f__law_gains := f__law_gains, d__law_gains := d__law_gains, F__law_gains := F__law_gains, m__law_gains := PySem.W.mg_of X G g__law_gains,
    f__law_around := f__law_around, d__law_around := d__law_around, F__law_around := F__law_around, m__law_around := PySem.W.mg_of X G g__law_around,
    f__law_first := f__law_first, d__law_first := d__law_first, F__law_first := F__law_first, m__law_first := PySem.W.mg_of X G g__law_first,
    f__law_follows := f__law_follows, d__law_follows := d__law_follows, F__law_follows := F__law_follows, m__law_follows := PySem.W.mg_of X G g__law_follows,
    f__law_back := f__law_back, d__law_back := d__law_back, F__law_back := F__law_back, m__law_back := PySem.W.mg_of X G g__law_back,
    f__law_bent_right := f__law_bent_right, d__law_bent_right := d__law_bent_right, F__law_bent_right := F__law_bent_right, m__law_bent_right := PySem.W.mg_of X G g__law_bent_right,
    f_law := fa, d_law := d_law, F_law := F_law, m_law := PySem.W.mg_of X G g_law,
    n_int := PySem.W.mg_none_of X G z_int,
    n_bool := PySem.W.mg_none_of X G z_bool,
    n_str := PySem.W.mg_none_of X G z_str,
    n_abs := PySem.W.mg_none_of X G z_abs,
    n_len := PySem.W.mg_none_of X G z_len,
    n_min := PySem.W.mg_none_of X G z_min,
    n_max := PySem.W.mg_none_of X G z_max,
    n_sorted := PySem.W.mg_none_of X G z_sorted,
    n_tuple := PySem.W.mg_none_of X G z_tuple,
    n_list := PySem.W.mg_none_of X G z_list,
    n_range := PySem.W.mg_none_of X G z_range,
    n_repr := PySem.W.mg_none_of X G z_repr,
    n_isinstance := PySem.W.mg_none_of X G z_isinstance,
    n_all := PySem.W.mg_none_of X G z_all,
    n_sum := PySem.W.mg_none_of X G z_sum,
    n_zip := PySem.W.mg_none_of X G z_zip,
    t_MOST_MODES := t_MOST_MODES, m_MOST_MODES := PySem.W.mg_of X G g_MOST_MODES,
    t_MOST_GAIN := t_MOST_GAIN, m_MOST_GAIN := PySem.W.mg_of X G g_MOST_GAIN,
    c_InvalidScore := c_InvalidScore, i_InvalidScore := i_InvalidScore, E_InvalidScore := EE_InvalidScore }
  refine ⟨d_law, fun s v => by rw [eu]; exact .of_eq rfl, fun base _ _ B => ?_⟩
  have IS : IsS K c_InvalidScore := ⟨OK_InvalidScore.xf, OK_InvalidScore.no, OK_InvalidScore.te⟩
  exact G_law (P := l.prog) (w := w) (base := base) T B IS (PySem.W.mg_of X G a_NetError) DC_law
end K69

open PySem PySem.W PyProof.Rows
set_option maxRecDepth 100000 in
set_option maxHeartbeats 0 in
theorem PySem.Challenge.cw_handalong_k69_weights_that_gains_follow_holds : PySem.Challenge.rw_handalong_k69_weights_that_gains_follow.Holds := by
  w_on; o_law; k_head; (case hw => w_witness2)
  k_fill
  refine KX.walk_ofT (l := PySem.Challenge.rw_handalong_k69_weights_that_gains_follow) (n := 63) (k := 13) (x := "script") (CX := L2.CX0) (c := ?c) (t := 212) (sp := K69.spLaw 212)
    rfl (by decide) rfl ⟨rfl, by decide, by decide⟩ (fun w h Y => km_in_of Y) (fun w h Y => km_tabs_of Y 212 (List.mem_singleton.mpr rfl)) ?hcd ?nt ?F (fun _ H a ns hl ht hS => ⟨a, ns, rfl, hS, ht, fun _ => rfl⟩) fun _ _ _ _ z => z
  case F =>
    intro w mg fa h Y G hmg
    refine' K69.all_mk Y G hmg ?a_InvalidScore ?i__InvalidScore ?ok_InvalidScore ?x_InvalidScore ?y_InvalidScore ?g_MOST_MODES ?g_MOST_GAIN ?g_is_integer ?e_is_integer ?k_is_integer ?g_is_number ?e_is_number ?k_is_number ?g_is_below ?e_is_below ?k_is_below ?g_is_tuple_of ?e_is_tuple_of ?k_is_tuple_of ?g_is_told ?e_is_told ?k_is_told ?g_are_rows ?e_are_rows ?k_are_rows ?g_is_even_table ?e_is_even_table ?k_is_even_table ?g_is_table ?e_is_table ?k_is_table ?g_check_table ?e_check_table ?k_check_table ?g_gain ?e_gain ?k_gain ?g_lead ?e_lead ?k_lead ?g_round_sum ?e_round_sum ?k_round_sum ?g_exact_weights ?e_exact_weights ?k_exact_weights ?g_is_exact ?e_is_exact ?k_is_exact ?g_is_moved_alike ?e_is_moved_alike ?k_is_moved_alike ?g__law_draw ?e__law_draw ?k__law_draw ?g__law_any ?e__law_any ?k__law_any ?g__law_of ?e__law_of ?k__law_of ?g__law_links ?e__law_links ?k__law_links ?g__law_network ?e__law_network ?k__law_network ?g__law_table ?e__law_table ?k__law_table ?g__law_refused ?e__law_refused ?k__law_refused ?g__law_gains ?e__law_gains ?k__law_gains ?g__law_around ?e__law_around ?k__law_around ?g__law_first ?e__law_first ?k__law_first ?g__law_follows ?e__law_follows ?k__law_follows ?g__law_back ?e__law_back ?k__law_back ?g__law_bent_right ?e__law_bent_right ?k__law_bent_right ?g_law ?e_law ?k_law ?a_NetError ?z_int ?z_bool ?z_str ?z_abs ?z_len ?z_min ?z_max ?z_sorted ?z_tuple ?z_list ?z_range ?z_repr ?z_isinstance ?z_all ?z_sum ?z_zip
    (case a_InvalidScore => k_is)
    (case i__InvalidScore => k_is)
    (case ok_InvalidScore => kernel_rfl)
    (case x_InvalidScore => (refine' ⟨_, _, _, _, _, _, _, _, _, _, _, _, _, _, _, ?h1, ?h2⟩; (case h1 => rfl); (case h2 => decide +kernel)))
    (case y_InvalidScore => (refine' ⟨_, _, _, _, _, _, _, _, _, _, _, _, _, _, ?h1, ?h2⟩; (case h1 => rfl); (case h2 => k_is)))
    (case g_MOST_MODES => k_is)
    (case g_MOST_GAIN => k_is)
    (case g_is_integer => k_is)
    (case e_is_integer => (refine' ⟨_, _, _, _, _, _, _, _, _, ?h1, ?h2⟩; (case h1 => rfl); (case h2 => k_is)))
    (case k_is_integer => k_is)
    (case g_is_number => k_is)
    (case e_is_number => (refine' ⟨_, _, _, _, _, _, _, _, _, ?h1, ?h2⟩; (case h1 => rfl); (case h2 => k_is)))
    (case k_is_number => k_is)
    (case g_is_below => k_is)
    (case e_is_below => (refine' ⟨_, _, _, _, _, _, _, _, _, ?h1, ?h2⟩; (case h1 => rfl); (case h2 => k_is)))
    (case k_is_below => k_is)
    (case g_is_tuple_of => k_is)
    (case e_is_tuple_of => (refine' ⟨_, _, _, _, _, _, _, _, _, ?h1, ?h2⟩; (case h1 => rfl); (case h2 => k_is)))
    (case k_is_tuple_of => k_is)
    (case g_is_told => k_is)
    (case e_is_told => (refine' ⟨_, _, _, _, _, _, _, _, _, ?h1, ?h2⟩; (case h1 => rfl); (case h2 => k_is)))
    (case k_is_told => k_is)
    (case g_are_rows => k_is)
    (case e_are_rows => (refine' ⟨_, _, _, _, _, _, _, _, _, ?h1, ?h2⟩; (case h1 => rfl); (case h2 => k_is)))
    (case k_are_rows => k_is)
    (case g_is_even_table => k_is)
    (case e_is_even_table => (refine' ⟨_, _, _, _, _, _, _, _, _, ?h1, ?h2⟩; (case h1 => rfl); (case h2 => k_is)))
    (case k_is_even_table => k_is)
    (case g_is_table => k_is)
    (case e_is_table => (refine' ⟨_, _, _, _, _, _, _, _, _, ?h1, ?h2⟩; (case h1 => rfl); (case h2 => k_is)))
    (case k_is_table => k_is)
    (case g_check_table => k_is)
    (case e_check_table => (refine' ⟨_, _, _, _, _, _, _, _, _, ?h1, ?h2⟩; (case h1 => rfl); (case h2 => k_is)))
    (case k_check_table => k_is)
    (case g_gain => k_is)
    (case e_gain => (refine' ⟨_, _, _, _, _, _, _, _, _, ?h1, ?h2⟩; (case h1 => rfl); (case h2 => k_is)))
    (case k_gain => k_is)
    (case g_lead => k_is)
    (case e_lead => (refine' ⟨_, _, _, _, _, _, _, _, _, ?h1, ?h2⟩; (case h1 => rfl); (case h2 => k_is)))
    (case k_lead => k_is)
    (case g_round_sum => k_is)
    (case e_round_sum => (refine' ⟨_, _, _, _, _, _, _, _, _, ?h1, ?h2⟩; (case h1 => rfl); (case h2 => k_is)))
    (case k_round_sum => k_is)
    (case g_exact_weights => k_is)
    (case e_exact_weights => (refine' ⟨_, _, _, _, _, _, _, _, _, ?h1, ?h2⟩; (case h1 => rfl); (case h2 => k_is)))
    (case k_exact_weights => k_is)
    (case g_is_exact => k_is)
    (case e_is_exact => (refine' ⟨_, _, _, _, _, _, _, _, _, ?h1, ?h2⟩; (case h1 => rfl); (case h2 => k_is)))
    (case k_is_exact => k_is)
    (case g_is_moved_alike => k_is)
    (case e_is_moved_alike => (refine' ⟨_, _, _, _, _, _, _, _, _, ?h1, ?h2⟩; (case h1 => rfl); (case h2 => k_is)))
    (case k_is_moved_alike => k_is)
    (case g__law_draw => k_is)
    (case e__law_draw => (refine' ⟨_, _, _, _, _, _, _, _, _, ?h1, ?h2⟩; (case h1 => rfl); (case h2 => k_is)))
    (case k__law_draw => k_is)
    (case g__law_any => k_is)
    (case e__law_any => (refine' ⟨_, _, _, _, _, _, _, _, _, ?h1, ?h2⟩; (case h1 => rfl); (case h2 => k_is)))
    (case k__law_any => k_is)
    (case g__law_of => k_is)
    (case e__law_of => (refine' ⟨_, _, _, _, _, _, _, _, _, ?h1, ?h2⟩; (case h1 => rfl); (case h2 => k_is)))
    (case k__law_of => k_is)
    (case g__law_links => k_is)
    (case e__law_links => (refine' ⟨_, _, _, _, _, _, _, _, _, ?h1, ?h2⟩; (case h1 => rfl); (case h2 => k_is)))
    (case k__law_links => k_is)
    (case g__law_network => k_is)
    (case e__law_network => (refine' ⟨_, _, _, _, _, _, _, _, _, ?h1, ?h2⟩; (case h1 => rfl); (case h2 => k_is)))
    (case k__law_network => k_is)
    (case g__law_table => k_is)
    (case e__law_table => (refine' ⟨_, _, _, _, _, _, _, _, _, ?h1, ?h2⟩; (case h1 => rfl); (case h2 => k_is)))
    (case k__law_table => k_is)
    (case g__law_refused => k_is)
    (case e__law_refused => (refine' ⟨_, _, _, _, _, _, _, _, _, ?h1, ?h2⟩; (case h1 => rfl); (case h2 => k_is)))
    (case k__law_refused => k_is)
    (case g__law_gains => k_is)
    (case e__law_gains => (refine' ⟨_, _, _, _, _, _, _, _, _, ?h1, ?h2⟩; (case h1 => rfl); (case h2 => k_is)))
    (case k__law_gains => k_is)
    (case g__law_around => k_is)
    (case e__law_around => (refine' ⟨_, _, _, _, _, _, _, _, _, ?h1, ?h2⟩; (case h1 => rfl); (case h2 => k_is)))
    (case k__law_around => k_is)
    (case g__law_first => k_is)
    (case e__law_first => (refine' ⟨_, _, _, _, _, _, _, _, _, ?h1, ?h2⟩; (case h1 => rfl); (case h2 => k_is)))
    (case k__law_first => k_is)
    (case g__law_follows => k_is)
    (case e__law_follows => (refine' ⟨_, _, _, _, _, _, _, _, _, ?h1, ?h2⟩; (case h1 => rfl); (case h2 => k_is)))
    (case k__law_follows => k_is)
    (case g__law_back => k_is)
    (case e__law_back => (refine' ⟨_, _, _, _, _, _, _, _, _, ?h1, ?h2⟩; (case h1 => rfl); (case h2 => k_is)))
    (case k__law_back => k_is)
    (case g__law_bent_right => k_is)
    (case e__law_bent_right => (refine' ⟨_, _, _, _, _, _, _, _, _, ?h1, ?h2⟩; (case h1 => rfl); (case h2 => k_is)))
    (case k__law_bent_right => k_is)
    (case g_law => k_is)
    (case e_law => (refine' ⟨_, _, _, _, _, _, _, _, ?h1, ?h2⟩; (case h1 => rfl); (case h2 => k_is)))
    (case k_law => k_is)
    (case a_NetError => k_is)
    (case z_int => k_is)
    (case z_bool => k_is)
    (case z_str => k_is)
    (case z_abs => k_is)
    (case z_len => k_is)
    (case z_min => k_is)
    (case z_max => k_is)
    (case z_sorted => k_is)
    (case z_tuple => k_is)
    (case z_list => k_is)
    (case z_range => k_is)
    (case z_repr => k_is)
    (case z_isinstance => k_is)
    (case z_all => k_is)
    (case z_sum => k_is)
    (case z_zip => k_is)
  case hcd => intro w; kernel_rfl
  case nt => intro w; kernel_rfl
