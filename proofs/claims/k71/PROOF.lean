import PyProof.Rows.All
import Wide.All
import OpenK.AllK
import Wide.FinOn
import HandS.ForExc
import HandS.HotCalls
import HandS.ExcField
import HandS.ExcIs
import HandS.RaiseMore
import HandS.Comp
import PyProof.ReprRoads
import KE.KExcIs
import HandS.IsInst
import HandS.Defaults
import HandS.Gcd
import HandS.Wide
import HandS.Style
import HandS.Flow
import HandS.Lambda
import HandS.TupLe
import HandS.TupAny
import HandS.SetFor
import HandS.Conv
import HandS.SlotsOwn
import PyProof.InstNe
import KE.GoesEnum
import HandS.Iter
import HandS.Walk
import HandS.Deep
import HandS.Sort
import HandS.SortRule
import HandS.MakeKw
import HandS.MakeKwOnly
import HandS.TryOnly
import KE.SortData
import KE.DatumOrd
import HandS.TupMul
import HandS.SortKw
import HandS.ListItems
import HandS.DictTup
import KE.KTupSum
import HandS.Small
import HandS.TryMany
import HandS.Zip
import KE.GoesZip
import KE.GoesMore
import PySem.Challenge.RW_handalong_k71_covers_by_turns
import HandS.CallLocal
import KE.KExcTry
import KE.KExcStr
set_option Elab.async false
set_option linter.all false
set_option maxRecDepth 100000
set_option maxHeartbeats 4000000
namespace KX
open PySem PySem.Spec PyProof.Rows L2
/-! repr of data -/
def rRepr (K : PySem.W.Frag) : List V → Hp → VK → Prop := fun xs H Q =>
  ∃ x d, xs = [x] ∧ Dp K H x d ∧ d.showable = true ∧ d.hasDict = false ∧ d.depth ≤ 64 ∧
    d.shown.length ≤ sizeLine ∧ Q (.str d.shown) H
theorem cr_repr {X : Cx} (hg : X.A.guards = some []) (hu : X.A.units + 66 < cLine) :
    CallR X (.builtin "repr") (rRepr X.K) := by
  intro pins s σ H xs us Q I r h
  obtain ⟨x, d, rfl, hd, hs, hn, h64, hz, q⟩ := h
  cases r with
  | cons rx rn =>
    cases rn
    rename_i u
    obtain ⟨as, rd⟩ := Dp.reads I d x u hd rx
    have hsm : d.hasDict = true → sysModules ∉ as := fun z => by rw [hn] at z; cases z
    have out : ∀ (h' : Heap) (tk : Nat) (t : Tok), (∀ b o, s.heap.get? b = some o → h'.get? b = some o) →
        EP X pins σ Q (.str d.shown t) { s with heap := h', toks := tk } := fun h' tk t k =>
      ⟨.str d.shown, H, I.kept k, ⟨t, rfl⟩, q⟩
    cases rd with
    | none => exact P.repr_of_none (out s.heap _ _ fun _ _ e => e)
    | bool b => exact P.repr_of_bool (by simpa only [PyData.shown] using out s.heap (s.toks + 1) s.toks fun _ _ e => e)
    | int i t =>
      exact P.repr_of_int (by simpa [PyData.showable] using hs)
        (by simpa only [PyData.shown] using out s.heap (s.toks + 1) s.toks fun _ _ e => e)
    | str z t =>
      exact P.repr_of_str (by simpa only [PyData.shown] using out s.heap (s.toks + 1) s.toks fun _ _ e => e)
        (by simpa only [PyData.shown] using hz)
    | list h1 h2 h3 h4 =>
      exact repr_of_reads' (.list h1 h2 h3 h4) hs hsm hg (by omega) (fun _ _ e => e)
        (fun h' u tk k => out h' tk u k) hz
    | tuple h1 h2 h3 h4 =>
      exact repr_of_reads' (.tuple h1 h2 h3 h4) hs hsm hg (by omega) (fun _ _ e => e)
        (fun h' u tk k => out h' tk u k) hz
    | dict h1 h2 h3 h4 h5 => cases hn
end KX

namespace PySem
namespace ErrX
open PySem.W PySem.Calls PyProof.Rows PySem.HandSPX
/-! ### the text of __init__ -/
def iA (p1 p2 : Pos) : Arguments := { posonlyargs := [], args := [{ arg := "self", annotation := none, pos := p1 }, { arg := "at", annotation := none, pos := p2 }], vararg := none, kwonlyargs := [], kw_defaults := [], kwarg := none, defaults := [] }
def iB (q1 q2 q3 q4 : Pos) : List Stmt := [.Assign [.Attribute (.Name "self" q1) "at" q2] (.Name "at" q3) q4]
def iS : Scope := { kind := .function, names := [(PySem.Str.ofString "self", .local), (PySem.Str.ofString "at", .local)], isGenerator := false, isCoroutine := false, more := [] }
/-- what the written part says of Low, at C, and of its __init__, at fI -/
structure ErrTxt (K : Frag) (mg : Str → Option Value) (en qn : Str) (C fI : Addr) : Prop where
  gC : mg en = some (.ref C)
  cls : ∃ nm q N bs bm sn sub ab col dd k0 k1 k2 k3 k5, K.lookup C = some (excClassObj nm q C N bs bm true sn sub ab col dd k0 k1 k2 k3 k5 "ValueError.__new__") ∧ refsVE bm = true
  sa : findIn K (.ref C) "__setattr__" = some (some (.builtin "object.__setattr__"))
  ga : findIn K (.ref C) "__getattribute__" = some (some (.builtin "BaseException.__getattribute__"))
  gg : findIn K (.ref C) "__getattr__" = some none
  noN : findIn K (.ref C) "at" = some none
  iC : findIn K (.ref C) "__init__" = some (some (.ref fI))
  tC : typeIn K (.ref fI) = some (.type "function")
  kC : keepIn K (.ref C) = true
  exC : subIn K (.ref C) (.type "BaseException") = some true
  tyC : typeIn K (.ref C) = some (.type "type")
  hdC : hasDictIn K C = true
  te : exmOne K (.ref C) (.ref C) = some true
  fn : ∃ (oc : Value) (od : Option Addr) (doc pm : Value) (an : Option Addr) (cdv ct : Value) (osl : Array (Option Value)) (p1 p2 q1 q2 q3 q4 : Pos),
    K.lookup fI = some ⟨oc, od, .func (fnOf "__init__" qn (iA p1 p2) (iB q1 q2 q3 q4) iS .none .none doc pm an cdv ct), osl⟩ ∧ codeIn K cdv qn = true
theorem one_size (v : Value) : [v].length ≤ sizeLine := by
  rw [sizeLine_eq]
  exact (by decide : 1 ≤ 16777216)
theorem kept_but {K : Frag} {h h' : Heap} {x : Addr} (X : K.In h) (hx : K.lookup x = none) (k : ∀ b o, b ≠ x → h.get? b = some o → h'.get? b = some o) : K.In h' := fun a o e =>
  k a o (fun z => by rw [z, hx] at e; cases e) (X a o e)
theorem ldC {M : Model} {s : Shared} {name : Str} {scope : Scope} {L a : Addr} {cd : Value} {m : Str → Option Value} {x : Str} {pos : Pos} {v : Value} {Q : Value → Shared → Prop} {A : Around} {E : Value → Shared → Prop} (hn : s.heap.Ns L m) (hv : m x = some v) (h : Q v s)
    (hk : scope.kind = .function := by rfl) (hl : (envOfC name scope L a cd).kindOf x = some .local := by rfl) (hd : (x == ("__debug__" : Str)) = false := by decide) :
    wpAny M A (eval (.Name x pos) (envOfC name scope L a cd)) Q E s := wpAny_Name (wpAny_loadName_local hk hl hn hv h) hd
/-- what __init__ leaves of a fresh exception at x -/
structure InitEnd (h h' : Heap) (x C dx t1 : Addr) (v : Value) : Prop where
  keep : ∀ b o, b ≠ x → h.get? b = some o → h'.get? b = some o
  obj : h'.get? x = some { cls := .ref C, dict := some dx, data := .fields #[.ref t1, .none, .none, .none, .bool false, .none] }
  dbig : h.objs.size ≤ dx
  dne : dx ≠ x
  ns : h'.Ns1 dx (fun y => if y = "at" then some v else none)
/-- a made Low -/
structure OwnMade (h h' : Heap) (e C d : Addr) (v : Value) : Prop where
  keep : ∀ b o, h.get? b = some o → h'.get? b = some o
  new : h.objs.size ≤ e
  obj : ∃ oe vs, h'.get? e = some oe ∧ oe.cls = .ref C ∧ oe.dict = some d ∧ oe.data = .fields vs ∧ vs[1]? = some .none ∧ vs[2]? = some .none
  dbig : h.objs.size ≤ d
  dne : d ≠ e
  ns : h'.Ns1 d (fun y => if y = "at" then some v else none)
section
variable {prog : Program} {w : World} {A : Around} {E : Value → Shared → Prop} {R : Result → Shared → Prop} {s : Shared} {K : Frag} {mg : Str → Option Value} {C fI : Addr} {en qn : Str}
theorem err_init (T : ErrTxt K mg en qn C fI) {x t0 : Addr} {v : Value} (X : K.In s.heap) (hlim : s.heap.NoLimit) (hx : s.heap.get? x = some (excO C t0)) (hnx : K.lookup x = none) (hroom : A.depth < recursionLimit)
    (hq : ∀ h' tk dx, InitEnd s.heap h' x C dx t0 v → R (.ok (.ret .none)) { s with heap := h', toks := tk }) :
    codeAny (model prog w) A (.call (.ref fI) ⟨[.ref x, v], []⟩) R s := by
  obtain ⟨oc, od, doc, pm, an, cdv, ct, osl, p1, p2, q1, q2, q3, q4, ho, hcd⟩ := T.fn
  obtain ⟨nm, q, N, bs, bm, sn, sub, ab, col, dd, k0, k1, k2, k3, k5, hC, hbm⟩ := T.cls
  have hcl : clsIn K C = some { name := nm, bases := bs, mro := .ref C :: bm, ns := N, qualname := q, hasDict := true, slotNames := sn, subclasses := sub, abstract := ab, collection := col, hasDel := false } := by unfold clsIn; rw [hC] <;> rfl
  refine Att.call_fn (binds := [("self", .ref x), ("at", v)]) X hlim ho hcd hroom (BindsTo.of_eq (by first | rfl | with_unfolding_all rfl)) (by first | rfl | decide | with_unfolding_all rfl) (fun s₁ IC => ?_) rfl rfl rfl
  obtain ⟨h₁, tk₁, rfl⟩ := IC.toInCall.same
  have k : ∀ b o, s.heap.get? b = some o → h₁.get? b = some o := IC.toInCall.keep
  have hn := IC.toInCall.ns
  have hxL : s.heap.objs.size ≠ x := Nat.ne_of_gt (Heap.lt_size hx)
  have X₁ : K.In h₁ := X.keeps k
  have hx₁ := k _ _ hx
  -- self.by = by
  show wpAny _ _ (execs _ _) _ _ _
  refine wpAny_execs_cons (plainObj_wpAny_Assign_Attribute ?_)
  refine ldC (v := v) hn (by first | rfl | with_unfolding_all rfl | kernel_rfl) (ldC (v := .ref x) hn (by first | rfl | with_unfolding_all rfl | kernel_rfl) ?_)
  refine set_plain X₁ (ox := excO C t0) (od := none) ⟨hx₁, rfl, rfl, trivial⟩ T.sa ?_
  refine exc_osa X₁ hx₁ hcl (show refsVE (.ref C :: bm) = true from hbm) rfl T.noN (fun h₃ tk₃ dx k₃ dn dne hx₃ hn₃ => ?_)
  show wpAny _ _ (execs _ _) _ _ _
  have z : s.heap.objs.size < h₁.objs.size := hn.lt
  exact wpAny_execs_nil (hq h₃ tk₃ dx ⟨fun b o hb e => k₃ b o hb (k b o e), hx₃, Nat.le_of_lt (Nat.lt_of_lt_of_le z dn), dne, hn₃⟩)
theorem err_made (T : ErrTxt K mg en qn C fI) {v : Value} (X : K.In s.heap) (hlim : s.heap.NoLimit) (hroom : A.depth + 1 < recursionLimit)
    (hq : ∀ h' tk e d, OwnMade s.heap h' e C d v → R (.ok (.ret (.ref e))) { s with heap := h', toks := tk }) :
    codeAny (model prog w) A (.call (.ref C) ⟨[v], []⟩) R s := by
  obtain ⟨nm, q, N, bs, bm, sn, sub, ab, col, dd, k0, k1, k2, k3, k5, hC, hbm⟩ := T.cls
  obtain ⟨hp, g, dr, tk, os⟩ := s
  have k : ∀ b o, hp.get? b = some o → ((hp.push (kdv_tup [v])).push (excO C hp.objs.size)).get? b = some o := fun b o e => Heap.get?_push_of_some _ (Heap.get?_push_of_some _ e)
  have hget : ((hp.push (kdv_tup [v])).push (excO C hp.objs.size)).get? (hp.objs.size + 1) = some (excO C hp.objs.size) := by heap_get
  have hnx : K.lookup (hp.objs.size + 1) = none := by
    cases e : K.lookup (hp.objs.size + 1) with
    | none => rfl
    | some o =>
      have z : hp.get? (hp.objs.size + 1) = some o := X _ _ e
      exact absurd (Nat.lt_of_succ_lt (Heap.lt_size z)) (Nat.lt_irrefl _)
  refine call_own F.excBase_ValueError (fun X => refsVE_contains X bm hbm) (X _ _ hC) (looks_findIn X T.iC) (fun self => bind_fn X self T.tC) (one_size v) ?_
  refine err_init (s := ⟨(hp.push (kdv_tup [v])).push (excO C hp.objs.size), g, dr, tk, os⟩) T (X.keeps k) (hlim.keeps k) hget hnx ?_ fun h' tk' dx ⟨k', hx, dn, dne, hns⟩ => ?_
  · show A.depth + 1 < recursionLimit
    exact hroom
  · have old : ∀ b o, hp.get? b = some o → h'.get? b = some o := fun b o e => k' b o (Nat.ne_of_lt (Nat.lt_succ_of_lt (Heap.lt_size e))) (k b o e)
    have z : hp.objs.size + 1 + 1 ≤ dx := by
      first
        | (simpa only [Heap.size_push] using dn)
        | exact dn
        | (have q := dn; rw [Heap.size_push, Heap.size_push] at q; exact q)
    exact ⟨rfl, hq h' tk' (hp.objs.size + 1) dx ⟨old, Nat.le_succ _, ⟨_, _, hx, rfl, rfl, rfl, rfl, rfl⟩, Nat.le_trans (Nat.le_trans (Nat.le_succ _) (Nat.le_succ _)) z, dne, hns⟩⟩
end
end ErrX
end PySem
namespace KX
open PySem PySem.Spec PyProof.Rows L2
theorem relO_err {v : V} {v' : Value} (r : RelV v v') (f : Str) : RelO (List.lookup f [(("at" : Str), v)]) (if f = "at" then some v' else none) := by
  by_cases hw : f = "at"
  · subst hw
    rw [if_pos rfl]
    have q : List.lookup ("at" : Str) [(("at" : Str), v)] = some v := by simp [List.lookup]
    rw [q]
    exact r
  · rw [if_neg hw]
    have qw : (f == ("at" : Str)) = false := by simpa using hw
    have q2 : List.lookup f [(("at" : Str), v)] = none := by simp [List.lookup, qw]
    rw [q2]
    trivial
section
variable {X : Cx} {C fI : Addr} {en qn : Str}
/-- Low(e) -/
def tMkErr (C : Addr) (ta : TA) : L2.St → Hp → XK → Prop := fun σ H Q => ta σ H fun vs H1 => ∃ v, vs = [v] ∧ ∀ d, H1 d = none → Q (.ref C) (some d) (upd H1 d (.xd [(("at" : Str), v)]))
theorem pmk_err {a : Expr} {ta : TA} {p pos : Pos} {k : Nat} (T : PySem.ErrX.ErrTxt X.K X.mg en qn C fI) (hr : Room k X.A) (ha : PA X [a] ta) (hg : Gl X en := by rfl) (hdb : (en == ("__debug__" : Str)) = false := by decide)
    (he : starEach (a :: []) X.env = (false, eval a X.env) :: starEach [] X.env := by rfl) (hpl : (backTo pos (starEach [] X.env)).any (·.1) = false := by rfl) :
    L2N.PMk X (.Call (.Name en p) [a] [] pos) (tMkErr C ta) := by
  intro pins s σ H Q I h
  refine wpAny_Call_Name_kw (ld_glob I hg T.gC ?_ hdb)
  refine PySem.W.callWith_K (h₀ := X.base) I.ok.mod.kin T.kC (thn (ha.run pos pins s σ H _ I h) fun us s1 hh => ?_) he hpl
  obtain ⟨vs, H1, I1, r1, v, ev, q1⟩ := hh
  subst ev
  refine ⟨I1.kIn, ?_⟩
  cases r1 with
  | cons rv rn =>
    rename_i v' us'
    cases rn
    show wpAny _ _ (call (.ref C) [v']) _ _ _
    have hlim := I1.nolimit
    obtain ⟨hp, g, dr, tk, os⟩ := s1
    refine wpAny_call (PySem.ErrX.err_made T I1.kIn hlim (by have := hr.dp; omega) fun h' tk' e d M => ?_)
    show L2N.MkP X pins σ Q (.ref e) ⟨h', g, dr, tk', os⟩
    obtain ⟨oe, fv, hoe, hc, hd, hdat, h1, h2⟩ := M.obj
    have hns := M.ns
    obtain ⟨G', g1, g2⟩ := restrict h' fun b => decide (b ≠ e)
    have gk : ∀ b, b ≠ e → G'.get? b = h'.get? b := fun b hb => g1 b (decide_eq_true hb)
    have ge : G'.get? e = none := g2 e (by simp)
    have old : ∀ b o, hp.get? b = some o → G'.get? b = some o := fun b o q => (gk b (Nat.ne_of_lt (Nat.lt_of_lt_of_le (Heap.lt_size q) M.new))).trans (M.keep b o q)
    have ob : ObjOk X.prog X.w (upd H1 d (.xd [(("at" : Str), v)])) G' d (.xd [(("at" : Str), v)]) :=
      ⟨_, hns.at (fun o q => (gk d M.dne).trans q), fun f => relO_err rv f⟩
    have J : Inv X pins σ (upd H1 d (.xd [(("at" : Str), v)])) ⟨G', g, dr, tk', os⟩ := I1.laid (t' := tk') old M.dbig ob
    refine ⟨e, oe, fv, ⟨G', g, dr, tk', os⟩, _, .ref C, some d, rfl, J, fun b o q => ?_, ge, hoe, ⟨hc, hd, fun vs' z => by rw [hdat] at z; cases z; exact h2⟩, hdat, h1, ?_, rfl, I1.bare, raises_own T.exC T.tyC, q1 d (I1.hok.fresh M.dbig)⟩
    · by_cases hb : b = e
      · have q' : G'.get? b = some o := q
        rw [hb, ge] at q'; cases q'
      · exact (gk b hb).symm.trans q
    · rw [upd_ne (Ne.symm M.dne)]
      exact I1.hok.fresh M.new
/-- raise Low(e) -/
def tRaiseErr (C : Addr) (W : WX) (ta : TA) : TS := fun _ σ H => tMkErr C ta σ H fun cls d H' => W cls d σ H'
theorem ps_raiseErr {a : Expr} {ta : TA} {W : WX} {p pos pos2 : Pos} {k : Nat} (hc : X.calm = true) (T : PySem.ErrX.ErrTxt X.K X.mg en qn C fI) (hr : Room k X.A) (tk : L2N.Takes X W) (ha : PA X [a] ta) (hg : Gl X en := by rfl) (hdb : (en == ("__debug__" : Str)) = false := by decide)
    (he : starEach (a :: []) X.env = (false, eval a X.env) :: starEach [] X.env := by rfl) (hpl : (backTo pos (starEach [] X.env)).any (·.1) = false := by rfl) :
    PS X (.Raise (some (.Call (.Name en p) [a] [] pos)) none pos2) (tRaiseErr C W ta) := L2N.ps_raise hc tk (pmk_err T hr ha hg hdb he hpl)
end
end KX

namespace PySem
namespace ErrX
open PySem.W PySem.Calls PyProof.Rows PySem.HandSPX
def iA0 (p1 : Pos) : Arguments :=
  { posonlyargs := [], args := [{ arg := "self", annotation := none, pos := p1 }], vararg := none,
    kwonlyargs := [], kw_defaults := [], kwarg := none, defaults := [] }
def iS0 : Scope :=
  { kind := .function, names := [(PySem.Str.ofString "self", .local)], isGenerator := false, isCoroutine := false, more := [] }
/-- an error class whose __init__(self) does nothing -/
structure ErrTxt0 (K : Frag) (mg : Str → Option Value) (en qn : Str) (C fI : Addr) : Prop where
  gC : mg en = some (.ref C)
  cls : ∃ nm q N bs bm sn sub ab col dd k0 k1 k2 k3 k5,
    K.lookup C = some (excClassObj nm q C N bs bm true sn sub ab col dd k0 k1 k2 k3 k5 "ValueError.__new__") ∧ refsVE bm = true
  iC : findIn K (.ref C) "__init__" = some (some (.ref fI))
  tC : typeIn K (.ref fI) = some (.type "function")
  kC : keepIn K (.ref C) = true
  exC : subIn K (.ref C) (.type "BaseException") = some true
  tyC : typeIn K (.ref C) = some (.type "type")
  fn : ∃ (oc : Value) (od : Option Addr) (doc pm : Value) (an : Option Addr) (cdv ct : Value) (osl : Array (Option Value)) (p1 q1 : Pos),
    K.lookup fI = some ⟨oc, od, .func (fnOf "__init__" qn (iA0 p1) [.Pass q1] iS0 .none .none doc pm an cdv ct), osl⟩ ∧
      codeIn K cdv qn = true
/-- what is made: an exception without a dict -/
structure OwnMade0 (h h' : Heap) (e C : Addr) : Prop where
  keep : ∀ b o, h.get? b = some o → h'.get? b = some o
  new : h.objs.size ≤ e
  obj : ∃ oe vs, h'.get? e = some oe ∧ oe.cls = .ref C ∧ oe.dict = none ∧ oe.data = .fields vs ∧ vs[1]? = some .none ∧
    vs[2]? = some .none
section
variable {prog : Program} {w : World} {A : Around} {E : Value → Shared → Prop} {R : Result → Shared → Prop}
  {s : Shared} {K : Frag} {mg : Str → Option Value} {C fI : Addr} {en qn : Str}
theorem err_init0 (T : ErrTxt0 K mg en qn C fI) {x : Addr} (X : K.In s.heap) (hlim : s.heap.NoLimit)
    (hroom : A.depth < recursionLimit)
    (hq : ∀ h' tk, (∀ b o, s.heap.get? b = some o → h'.get? b = some o) → R (.ok (.ret .none)) { s with heap := h', toks := tk }) :
    codeAny (model prog w) A (.call (.ref fI) ⟨[.ref x], []⟩) R s := by
  obtain ⟨oc, od, doc, pm, an, cdv, ct, osl, p1, q1, ho, hcd⟩ := T.fn
  refine Att.call_fn (binds := [("self", .ref x)]) X hlim ho hcd hroom
    (BindsTo.of_eq (by first | rfl | with_unfolding_all rfl)) (by first | rfl | decide | with_unfolding_all rfl)
    (fun s₁ IC => ?_) rfl rfl rfl
  obtain ⟨h₁, tk₁, rfl⟩ := IC.toInCall.same
  show wpAny _ _ (execs _ _) _ _ _
  refine wpAny_execs_cons ?_
  refine wpAny_Pass ?_
  show wpAny _ _ (execs _ _) _ _ _
  exact wpAny_execs_nil (hq h₁ tk₁ IC.toInCall.keep)
theorem err_made0 (T : ErrTxt0 K mg en qn C fI) (X : K.In s.heap) (hlim : s.heap.NoLimit) (hroom : A.depth + 1 < recursionLimit)
    (hq : ∀ h' tk e, OwnMade0 s.heap h' e C → R (.ok (.ret (.ref e))) { s with heap := h', toks := tk }) :
    codeAny (model prog w) A (.call (.ref C) ⟨[], []⟩) R s := by
  obtain ⟨nm, q, N, bs, bm, sn, sub, ab, col, dd, k0, k1, k2, k3, k5, hC, hbm⟩ := T.cls
  obtain ⟨hp, g, dr, tk, os⟩ := s
  have k : ∀ b o, hp.get? b = some o → ((hp.push (kdv_tup [])).push (excO C hp.objs.size)).get? b = some o :=
    fun b o e => Heap.get?_push_of_some _ (Heap.get?_push_of_some _ e)
  have hget : ((hp.push (kdv_tup [])).push (excO C hp.objs.size)).get? (hp.objs.size + 1) = some (excO C hp.objs.size) := by
    heap_get
  refine call_own F.excBase_ValueError (fun X => refsVE_contains X bm hbm) (X _ _ hC) (looks_findIn X T.iC)
    (fun self => bind_fn X self T.tC) (Nat.zero_le _) ?_
  refine err_init0 (s := ⟨(hp.push (kdv_tup [])).push (excO C hp.objs.size), g, dr, tk, os⟩) T (X.keeps k) (hlim.keeps k) ?_
    fun h' tk' k' => ?_
  · show A.depth + 1 < recursionLimit
    exact hroom
  · exact ⟨rfl, hq h' tk' (hp.objs.size + 1) ⟨fun b o e => k' b o (k b o e), Nat.le_succ _,
      ⟨_, _, k' _ _ hget, rfl, rfl, rfl, rfl, rfl⟩⟩⟩
end
end ErrX
end PySem

namespace KX
open PySem PySem.Spec PyProof.Rows L2
section
variable {X : Cx} {C fI : Addr} {en qn : Str}
def tMkErr0 (C : Addr) : L2.St → Hp → XK → Prop := fun _ H Q => Q (.ref C) none H
theorem pmk_err0 {p pos : Pos} {k : Nat} (T : PySem.ErrX.ErrTxt0 X.K X.mg en qn C fI) (hr : Room k X.A) (hg : Gl X en := by rfl)
    (hdb : (en == ("__debug__" : Str)) = false := by decide) : L2N.PMk X (.Call (.Name en p) [] [] pos) (tMkErr0 C) := by
  intro pins s σ H Q I h
  refine wpAny_Call_Name_kw (ld_glob I hg T.gC ?_ hdb)
  refine PySem.W.callWith_K0 I.kIn T.kC ?_
  show wpAny _ _ (call (.ref C) []) _ _ _
  have hlim := I.nolimit
  have KX := I.kIn
  obtain ⟨hp, g, dr, tk, os⟩ := s
  refine wpAny_call (PySem.ErrX.err_made0 T KX hlim (by have := hr.dp; omega) fun h' tk' e M => ?_)
  show L2N.MkP X pins σ Q (.ref e) ⟨h', g, dr, tk', os⟩
  obtain ⟨oe, fv, hoe, hc, hd, hdat, h1, h2⟩ := M.obj
  refine ⟨e, oe, fv, ⟨hp, g, dr, tk, os⟩, H, .ref C, none, rfl, I, M.keep, Heap.get?_none_of_le M.new, hoe,
    ⟨hc, hd, fun vs' z => by rw [hdat] at z; cases z; exact h2⟩, hdat, h1, I.hok.fresh M.new, rfl, I.bare,
    raises_own T.exC T.tyC, h⟩
def tRaiseErr0 (C : Addr) (W : WX) : TS := fun _ σ H => W (.ref C) none σ H
theorem ps_raiseErr0 {W : WX} {p pos pos2 : Pos} {k : Nat} (hc : X.calm = true) (T : PySem.ErrX.ErrTxt0 X.K X.mg en qn C fI)
    (hr : Room k X.A) (tk : L2N.Takes X W) (hg : Gl X en := by rfl) (hdb : (en == ("__debug__" : Str)) = false := by decide) :
    PS X (.Raise (some (.Call (.Name en p) [] [] pos)) none pos2) (tRaiseErr0 C W) :=
  L2N.ps_raise hc tk (pmk_err0 T hr hg hdb)
end
end KX

namespace KX
open PySem PySem.Spec PyProof.Rows L2 L2H
/-! contracts under a condition C on the call's surroundings -/
abbrev Con := Around → List Env → Shared → Hp → Prop
structure FnR (P : Program) (w : World) (K : PySem.W.Frag) (mg : Str → Option Value) (base : Heap) (CX : CXT) (C : Con)
    (f : Addr) (fd : FuncData) (ps : List Str) (sp : Sp) : Prop where
  sized : ∀ vs H Q E, sp vs H Q E → vs.length = ps.length
  does : ∀ (A : Around) (outer : List Env) (s : Shared) (H : Hp) (args : Args) (us : List Value) (vs : List V) (Q : VK) (E : XK),
    C A outer s H → Env0 P w K mg base A outer s H → BindsTo s fd args (ps.zip us) → Vals vs us → sp vs H Q E →
      codeAny (model P w) A (.call (.ref f) args) (CR CX outer P w H s Q E) s
/-- no repr is under way -/
def CG (k : Nat) : Con := fun A _ _ _ => Room k A ∧ A.guards = some []
/-- p is the exception that is handled -/
def CP (k : Nat) (p : Addr × Obj) : Con := fun A outer s H => RoomH k A ∧ Hot1 A p ∧ PinOk outer H s p
/-- a body's context, calm or not, with pins -/
abbrev cxV (c : Bool) (pn : List (Addr × Obj)) (X : Cx) : Cx := { X with calm := c, pn := pn }
section
variable {CX : CXT} {P : Program} {w : World} {K : PySem.W.Frag} {mg : Str → Option Value} {base : Heap} {f : Addr}
  {name qual : Str} {params : Arguments} {body : List Stmt} {scope : Scope} {dV kV doc pm cdv ct oc : Value}
  {an od : Option Addr} {osl : Array (Option Value)} {N ps : List Str}
theorem call_body {A : Around} {outer : List Env} {s : Shared} {H : Hp} {args : Args} {us : List Value} {vs : List V} {Q : VK}
    {E : XK} {c : Bool} {pn : List (Addr × Obj)}
    (lk : K.lookup f = some ⟨oc, od, .func (PySem.W.fnOf name qual params body scope dV kV doc pm an cdv ct), osl⟩)
    (hcd : PySem.W.codeIn K cdv qual = true) (S : FnScope N ps scope) (hdp : A.depth < recursionLimit)
    (e0 : Env0 P w K mg base A outer s H)
    (hb : BindsTo s (PySem.W.fnOf name qual params body scope dV kV doc pm an cdv ct) args (ps.zip us))
    (begins : ∀ s1, InCallC s s.heap.objs.size
        (bindL (envOfC qual scope s.heap.objs.size f cdv).kindOf (ps.zip us) fun _ => none)
        (cellsFrom (s.heap.objs.size + 1) scope.names [])
        (bindC (envOfC qual scope s.heap.objs.size f cdv).kindOf (ps.zip us) fun _ => none) s1 →
      L2.Inv (cxV c pn (cxOf CX P w K mg base N qual scope f cdv A outer s H E)) [] (L2.start N vs) H s1)
    (reads : ∃ t, PSs (cxV c pn (cxOf CX P w K mg base N qual scope f cdv A outer s H E)) body t ∧
      t { nx := fun _ H' => Q .non H', rt := Q } (L2.start N vs) H) :
    codeAny (model P w) A (.call (.ref f) args) (CR CX outer P w H s Q E) s := by
  have stays : ∀ b o, base.get? b = some o → s.heap.get? b = some o := fun b o e => (e0.bs b o e).1
  have KI := e0.mod.kin.keeps stays
  have NL := e0.mod.nolimit.keeps stays
  refine codeAny_call_function hdp (KI _ _ lk) rfl S.co S.gen rfl
    (PySem.W.codeRec_of KI hcd) (hb _ _ _ _ ?_)
  refine wpAny_newFunctionEnv_cells S.kind (fun y hy => ?_) fun env he s1 x => ?_
  · obtain ⟨n, v⟩ := y
    cases S.par n (List.of_mem_zip hy).1 with
    | inl q => exact Or.inl q
    | inr q => exact Or.inr ⟨q, PySem.W.cellsFrom_some _ _ _ (Or.inl q)⟩
  · subst he
    obtain ⟨t, ht, hq⟩ := reads
    have I := begins s1 x
    refine ⟨NL.keeps x.toInCall.keep, codeAny_func (wpAny_mono (ht.run [] s1 (L2.start N vs) H _ I hq)
      (fun fl s' hs => ?_) fun e s' hs => hs)⟩
    cases fl with
    | ret u =>
      obtain ⟨v, σ', H', J, rv, q⟩ := hs
      exact ⟨v, H', J.os, J.bare, J.base, J.hok, rv, q⟩
    | next =>
      obtain ⟨σ', H', J, q⟩ := hs
      exact ⟨V.non, H', J.os, J.bare, J.base, J.hok, rfl, q⟩
    | brk => exact False.elim hs.choose_spec.choose_spec.2
    | cont => exact False.elim hs.choose_spec.choose_spec.2
/-- a def under CG -/
theorem fnG_of {k : Nat} {sp : Sp}
    (lk : K.lookup f = some ⟨oc, od, .func (PySem.W.fnOf name qual params body scope dV kV doc pm an cdv ct), osl⟩)
    (hcd : PySem.W.codeIn K cdv qual = true) (S : FnScope N ps scope)
    (sized : ∀ vs H Q E, sp vs H Q E → vs.length = ps.length)
    (reads : ∀ (A : Around) (outer : List Env) (s : Shared) (H : Hp) (vs : List V) (Q : VK) (E : XK),
      Room k (A.deeper (envOfC qual scope s.heap.objs.size f cdv)) → A.guards = some [] → sp vs H Q E →
      ∃ t, PSs (cxOf CX P w K mg base N qual scope f cdv A outer s H E) body t ∧
        t { nx := fun _ H' => Q .non H', rt := Q } (L2.start N vs) H) :
    FnR P w K mg base CX (CG (k + 1)) f (PySem.W.fnOf name qual params body scope dV kV doc pm an cdv ct) ps sp :=
  ⟨sized, fun A outer s H args us vs Q E hc e0 hb r h =>
    call_body (c := true) (pn := []) lk hcd S hc.1.depth e0 hb
      (fun s1 x => inv_start S hc.1.hd e0 (sized _ _ _ _ h) r x) (reads A outer s H vs Q E (hc.1.deeper _) hc.2 h)⟩
/-- a def under CP -/
theorem fnP_of {k : Nat} {sp : Sp} {p : Addr × Obj}
    (lk : K.lookup f = some ⟨oc, od, .func (PySem.W.fnOf name qual params body scope dV kV doc pm an cdv ct), osl⟩)
    (hcd : PySem.W.codeIn K cdv qual = true) (S : FnScope N ps scope)
    (sized : ∀ vs H Q E, sp vs H Q E → vs.length = ps.length)
    (reads : ∀ (A : Around) (outer : List Env) (s : Shared) (H : Hp) (vs : List V) (Q : VK) (E : XK), Hot1 A p →
      RoomH k (A.deeper (envOfC qual scope s.heap.objs.size f cdv)) → sp vs H Q E →
      ∃ t, PSs (cxV false [p] (cxOf CX P w K mg base N qual scope f cdv A outer s H E)) body t ∧
        t { nx := fun _ H' => Q .non H', rt := Q } (L2.start N vs) H) :
    FnR P w K mg base CX (CP (k + 1) p) f (PySem.W.fnOf name qual params body scope dV kV doc pm an cdv ct) ps sp :=
  ⟨sized, fun A outer s H args us vs Q E hc e0 hb r h =>
    call_body (c := false) (pn := [p]) lk hcd S hc.1.depth e0 hb
      (fun s1 x => inv_startH S hc.2.2 e0 (sized _ _ _ _ h) r x)
      (reads A outer s H vs Q E hc.2.1 (hc.1.deeper _) h)⟩
end
section
variable {X : Cx} {CX : CXT} {C : Con} {f : Addr} {fd : FuncData} {ps : List Str} {sp : Sp} {E : XK} {x : Str} {p pos : Pos}
  {e : Expr} {es : List Expr} {t : TA}
/-- a call of such a def -/
theorem pe_callR (F : FnR X.prog X.w X.K X.mg X.base CX C f fd ps sp)
    (hC : ∀ pins σ H s, L2.Inv X pins σ H s → C X.A X.stack s H) (hg : Gl X x) (hm : X.mg x = some (.ref f))
    (hk : PySem.W.keepIn X.K (.ref f) = true) (hb : Binds X.K fd ps []) (hx : Passes CX X E) (ha : PA X (e :: es) t)
    (hdb : (x == ("__debug__" : Str)) = false := by decide)
    (he : starEach (e :: es) X.env = (false, eval e X.env) :: starEach es X.env := by rfl)
    (hpl : (backTo pos (starEach es X.env)).any (·.1) = false := by rfl) :
    PE X (.Call (.Name x p) (e :: es) [] pos) (tCall sp [] E t) := by
  refine ⟨fun pins s σ H Q I h => wpAny_Call_Name_kw (ld_glob I hg hm ?_ hdb)⟩
  refine PySem.W.callWith_K (h₀ := X.base) I.ok.mod.kin hk
    (thn (ha.run pos pins s σ H _ I h) fun us s1 hh => ?_) he hpl
  obtain ⟨vs, H1, I1, r, q⟩ := hh
  rw [List.append_nil] at q
  have hl : (us ++ []).length = ps.length := by
    rw [List.append_nil, ← r.length]
    exact F.sized _ _ _ _ q
  have b := hb s1 us I1.kIn hl
  rw [List.append_nil] at b
  refine ⟨I1.kIn, wpAny_call (codeAny_mono
    (F.does X.A X.stack s1 H1 ⟨us, []⟩ us vs Q E (hC _ _ _ _ I1) I1.env0 b r q) fun r s' hq => ?_)⟩
  match r, hq with
  | .error e, hq => exact hx pins σ H1 s1 e s' I1 hq
  | .ok (.ret u), hq => exact I1.after hq
end
end KX

namespace KX
open PySem PySem.Spec PyProof.Rows L2 L2H
/-! in an except suite -/
theorem hot_suite {X : Cx} {a : Addr} {oe : Obj} {cls : Value} {d : Option Addr} {pn : List (Addr × Obj)}
    (hz : L2N.Zn cls d oe) (hf : ∃ vs, oe.data = .fields vs) : HotC (X.suite a ((a, oe) :: pn)) := by
  obtain ⟨vs, hv⟩ := hf
  exact ⟨(a, oe), ⟨rfl, vs, hv, hz.2.2 vs hv⟩, List.mem_cons_self⟩
/-- the dict of the exception, if any, is tracked -/
def DictIs (d : Option Addr) (H : Hp) : Prop := d = none ∨ ∃ dd fs, d = some dd ∧ H dd = some (.xd fs)
/-- isinstance(e, c), e pinned -/
def rIsP (K : PySem.W.Frag) (D a : Addr) (d : Option Addr) : List V → Hp → VK → Prop := fun xs H Q =>
  DictIs d H ∧ ∃ (c : V) (cv : Value) (b : Bool), xs = [.ref a, c] ∧ (∀ u, RelV c u → u = cv) ∧
    PySem.W.kitOne K (.ref D) cv = some b ∧ Q (.bl b) H
theorem call_isP {X : Cx} {a D : Addr} {oe : Obj} {d : Option Addr} (C : ExcC X.K D) (hp : (a, oe) ∈ X.pn)
    (hz : Zc (.ref D) d oe) (hf : ∃ vs, oe.data = .fields vs) : CallR X (.builtin "isinstance") (rIsP X.K D a d) := by
  intro pins s σ H xs us Q I r h
  obtain ⟨hd, c, cv, b, rfl, hcv, e, q⟩ := h
  cases r with
  | cons rx rr =>
    cases rr with
    | cons rt rr =>
      cases rr
      cases rx
      have ec := hcv _ rt
      subst ec
      obtain ⟨hget, _⟩ := I.pin (a, oe) (List.mem_append_left _ hp)
      obtain ⟨vs, hv⟩ := hf
      obtain ⟨od, J⟩ : ∃ od, PySem.W.InstAt s.heap a oe D od := by
        rcases hd with hd | ⟨dd, fs, hd, hH⟩
        · refine ⟨none, hget, hz.1, by unfold PySem.W.notCls; rw [hv] <;> rfl, ?_⟩
          rw [hz.2, hd]
          trivial
        · have hx : ObjOk X.prog X.w H s.heap dd (.xd fs) := I.hok dd _ hH
          obtain ⟨mA, hns, _⟩ := hx
          obtain ⟨od, ho, _⟩ := lookIn_ns hns
          refine ⟨some od, hget, hz.1, by unfold PySem.W.notCls; rw [hv] <;> rfl, ?_⟩
          rw [hz.2, hd]
          exact ho
      have hcl : (PySem.W.clsIn X.K D).isSome = true := by
        obtain ⟨cd, hc, _⟩ := PySem.W.any_some C.hd
        rw [hc]
        rfl
      exact PySem.W.kia_one (PySem.W.kitx_exc (od := od) (ox := oe) hcl C.hg C.hk C.hs C.ha C.hn C.ht C.hm) I.kIn J e
        (fun z => nomatch z) fun tk => ⟨.bl b, H, I.kept (t' := tk) fun _ _ z => z, rfl, q⟩
/-! a list comprehension there -/
section
variable {X : Cx}
/-- the block's context, the handled exception pinned -/
abbrev hblk (X : Cx) (p : Addr × Obj) (s : Shared) (H : Hp) (scope : Scope) (ce : Env) (fp : List Addr) : Cx :=
  (X.blk s H scope ce fp).tr ([] ++ [p]) (fun _ _ => False)
theorem to_hblk {p : Addr × Obj} {s s' : Shared} {H H' : Hp} {scope : Scope} {ce : Env} {fp : List Addr} {σ : L2.St}
    (I : L2.Inv (X.blk s H scope ce fp) [] σ H' s')
    (h : s'.heap.get? p.1 = some p.2 ∧ H' p.1 = none ∧ p.1 ≠ ce.locals ∧ p.1 ∉ (X.blk s H scope ce fp).fs ∧ ∀ v, p.2.data ≠ .cell v) :
    L2.Inv (hblk X p s H scope ce fp) [] σ H' s' :=
  (I.pins_of (pins' := [p]) fun q hq => by rw [List.mem_singleton.mp hq]; exact h).toTry _
theorem hblk_hot {p : Addr × Obj} {s : Shared} {H : Hp} {scope : Scope} {ce : Env} {fp : List Addr} (h : Hot1 X.A p) :
    HotC (hblk X p s H scope ce fp) := ⟨p, h, by simp⟩
theorem pe_lcHot {p : Addr × Obj} {elt tg iter : Expr} {scope : Scope} {own : List (Str × Nat)} {pos : Pos} {wi : TI} {g : TG}
    {te : TE} (hot : Hot1 X.A p) (hp : p ∈ X.pn) (hN : X.N.Nodup) (hi : PIH X tg iter wi) (ok : BlkOk X.N X.env.scope scope own)
    (hg : ∀ s H C cl fp, PG (hblk X p s H scope (compEnvC scope cl C X.env) fp) tg g)
    (he : ∀ s H C cl fp, PE (hblk X p s H scope (compEnvC scope cl C X.env) fp) elt te)
    (hs : ∀ x, foldedSetIterable iter X.env x = pure x := by intro _; rfl) :
    PE X (.ListComp elt [⟨tg, iter, [], 0⟩] scope pos) (tLc wi g tYes te (own.map (·.2))) := by
  refine ⟨fun pins s σ H Q I h => ?_⟩
  rw [eval_ListComp]
  have free : ∀ y ∈ scope.names, y.2 = .free → ∃ c, X.env.cells.lookup y.1 = some c := fun y hy e =>
    (ok.free y hy e).elim (fun k => I.ok.has _ (Or.inl k)) fun k => I.ok.has _ (Or.inr k)
  refine wpAny_comprehension_free (use := none) rfl hs (closure_ok free) ok.kind
    (fun y hy e => by rw [ok.uniq y hy, e])
    (thn (hi.run pins s σ H _ I h) fun xv s1 hx => thn hx fun itv s2 h2 => ?_)
  obtain ⟨it, fp, tn, J, H2, e, I2, T, st2, f2, q⟩ := h2
  subst e
  refine wpAny_newObj_type (newEnv_comp ?_) (by show 0 ≤ sizeLine; decide)
  generalize hD : s2.heap.objs.size = D
  have hDn : H2 D = none := I2.hok.fresh (Nat.le_of_eq hD)
  obtain ⟨W, ⟨m0, w0⟩, turn⟩ := q D hDn
  generalize hs3 : ({ s2 with heap := s2.heap.push { cls := .type "list", data := .seq ([] : List Value).toArray } } : Shared) = s3
  have k23 : ∀ b o, s2.heap.get? b = some o → s3.heap.get? b = some o := fun b o e => by
    rw [← hs3]
    exact Heap.get?_push_of_some _ e
  have I3 : L2.Inv X pins σ (upd H2 D (.lst [])) s3 := by
    rw [← hs3]
    refine I2.laid (t' := s2.toks) (fun b o e => Heap.get?_push_of_some _ e) (Nat.le_of_eq hD)
      ⟨Nat.zero_le _, [], 0, .nil, ?_⟩
    rw [← hD]
    exact Heap.get?_push_size _ rfl
  have sz3 : s3.heap.objs.size = s2.heap.objs.size + 1 := by rw [← hs3]; exact Heap.size_push ..
  have P3 := I3.pin p (List.mem_append_left _ hp)
  have small : ∀ b ∈ fp, b < s2.heap.objs.size := fun b hb =>
    let ⟨_, e, _⟩ := T.obj _ _ st2 b hb
    Heap.lt_size e
  have f3 : ∀ b ∈ fp, FpOk X pins (upd H2 D (.lst [])) b ∧ b < s3.heap.objs.size := fun b hb => by
    have hlt := small b hb
    refine ⟨⟨?_, (f2 b hb).2⟩, by rw [sz3]; exact Nat.lt_succ_of_lt hlt⟩
    rw [upd_ne (by rw [← hD]; exact Nat.ne_of_lt hlt)]
    exact (f2 b hb).1
  have st3 : tn 0 s3.heap := T.keep _ _ _ st2 fun b _ o e => k23 b o e
  have I4' := block_start I3 ok hN f3
  show codeAny _ _ (.compStart (.ListComp elt [⟨tg, iter, [], 0⟩] scope pos) 0 (.ref it) (.ref D)
      (compEnvC scope (cellsFrom (s3.heap.objs.size + 1) scope.names (cloFrom X.env.cells scope.names [])) s3.heap.objs.size X.env))
    (compPost (model X.prog X.w) X.A X.xe none (EP X pins σ Q) (.ref D) s3.heap.objs.size)
    { s3 with heap := pushCells (s3.heap.push { cls := .type "dict", data := .dict #[] }) scope.names }
  have pg := hg s3 (upd H2 D (.lst [])) s3.heap.objs.size
    (cellsFrom (s3.heap.objs.size + 1) scope.names (cloFrom X.env.cells scope.names [])) fp
  have pe := he s3 (upd H2 D (.lst [])) s3.heap.objs.size
    (cellsFrom (s3.heap.objs.size + 1) scope.names (cloFrom X.env.cells scope.names [])) fp
  generalize hce : compEnvC scope (cellsFrom (s3.heap.objs.size + 1) scope.names
    (cloFrom X.env.cells scope.names [])) s3.heap.objs.size X.env = ce at I4' pg pe ⊢
  have cL : ce.locals = s3.heap.objs.size := by subst hce; rfl
  generalize hH3 : upd H2 D (.lst []) = H3 at I3 I4' pg pe w0 f3 P3
  generalize hs4 : ({ s3 with heap := pushCells (s3.heap.push { cls := .type "dict", data := .dict #[] }) scope.names } : Shared) = s4
    at I4' ⊢
  have k34 : ∀ b o, s3.heap.get? b = some o → s4.heap.get? b = some o := fun b o e => by
    rw [← hs4]
    exact pushCells_keeps _ _ _ _ (Heap.get?_push_of_some _ e)
  have st4 : tn 0 s4.heap := T.keep _ _ _ st3 fun b _ o e => k34 b o e
  have nfs : p.1 ∉ (X.blk s3 H3 scope ce fp).fs := fun hm =>
    (List.mem_cons.mp (I3.stkSub p.1 hm)).elim P3.2.2.1 P3.2.2.2.1
  have I4 : L2.Inv (hblk X p s3 H3 scope ce fp) [] (wipe σ (own.map (·.2))) H3 s4 := to_hblk I4'
    ⟨k34 _ _ P3.1, P3.2.1, by rw [cL]; exact Nat.ne_of_lt (Heap.lt_size P3.1), nfs, P3.2.2.2.2⟩
  have hc : HotC (hblk X p s3 H3 scope ce fp) := hblk_hot hot
  have nfp : ∀ b ∈ fp, H3 b = none := fun b hb => (f3 b hb).1.1
  have stat : ∀ {σ' : L2.St} {H' : Hp} {s' : Shared}, L2.Inv (hblk X p s3 H3 scope ce fp) [] σ' H' s' → (∀ b ∈ fp, H' b = none) →
      ∀ b ∈ fp, FpOk (hblk X p s3 H3 scope ce fp) [] H' b := fun {σ' H' s'} I' hn b hb =>
    ⟨hn b hb, (I'.ok.exf b hb).1, I'.ok.exfs b hb, Or.inl hb, fun x c e => (I'.ok.exf b hb).2 x c e, fun r hr => by
      have er : r = p := by simpa using hr
      rw [er]
      exact (f3 b hb).1.2.2.2.2.2 p (List.mem_append_left _ hp)⟩
  have loop : codeAny (model X.prog X.w) X.A (.compLoop (.ListComp elt [⟨tg, iter, [], 0⟩] scope pos) 0 (.ref it) (.ref D) ce)
      (compPost (model X.prog X.w) X.A X.xe none (EP X pins σ Q) (.ref D) s3.heap.objs.size) s4 := by
    refine compLoop_any (fun n s' => ∃ i H', L2.Inv (hblk X p s3 H3 scope ce fp) [] (wipe σ (own.map (·.2))) H' s' ∧
      tn i s'.heap ∧ (∀ b ∈ fp, H' b = none) ∧ W i n H') ?_ m0 ⟨0, H3, I4, st4, nfp, w0⟩
    rintro n s5 ⟨i, H5, I5, st5, n5, w5⟩
    rcases turn i n H5 w5 with ⟨stop, qq⟩ | ⟨go, Nx, hNx, step⟩
    · refine thnF (T.done (hblk X p s3 H3 scope ce fp) rfl rfl rfl hc i [] s5 _ H5 (fun _ _ => False) I5 (stat I5 n5) st5 stop)
        fun r s6 hr => ?_
      obtain ⟨rfl, I6⟩ := hr
      have I7 : L2.Inv X pins σ H5 s6 := I3.call' (ch := fp) I6.os I6.base I6.hok I6.bare fun b hb =>
        let z := (f3 b hb).1.2
        ⟨z.2.2.1, z.1, z.2.2.2.1, z.2.2.2.2⟩
      have nC : H5 s3.heap.objs.size = none := by rw [← cL]; exact I6.free
      obtain ⟨m, hn, _⟩ := I6.loc
      have hn : s6.heap.Ns s3.heap.objs.size m := by rw [← cL]; exact hn
      obtain ⟨g0, g1, g2, g3, g4, g5⟩ := I3.fpOk (Nat.le_refl _) nC
      exact ⟨m, hn, fun h'' sb => ⟨.ref D, H5,
        I7.turned (t' := s6.toks) (fun b o hb e => (sb.2 b hb).trans e) g0 g1 g3 g4 g5, rfl, qq⟩⟩
    · refine thnF (T.item (hblk X p s3 H3 scope ce fp) rfl rfl rfl hc i [] s5 _ H5 (fun _ _ => False) I5 (stat I5 n5) st5 go)
        fun r s6 hr => ?_
      obtain ⟨u, rfl, h6⟩ := hr
      refine thnF h6 fun _ s7 h7 => ?_
      obtain ⟨x, H7, I7, r7, y7, st7, n7⟩ := h7
      have I7' := I7.pinned (stat I7 n7) (T.obj _ _ st7)
      refine thnF (pg.run _ s7 _ H7 x u _ I7' r7 (step x H7 y7)) fun _ s8 h8 => ?_
      obtain ⟨σ8, H8, I8, hw8, q8⟩ := h8
      refine wpAny_pure ?_
      have q9 : te σ8 H8 fun y H4 => ∃ acc, H4 D = some (.lst acc) ∧ acc.length < sizeLine ∧ Nx (upd H4 D (.lst (acc ++ [y]))) := q8
      simp only [if_true]
      refine thnF (pe.run _ s8 σ8 H8 _ I8 q9) fun z s10 h10 => ?_
      obtain ⟨yv, H10, I10, r10, acc, hD10, hz10, nx⟩ := h10
      refine app_ok (X := hblk X p s3 H3 scope ce fp) I10 hD10 hz10 r10 fun s11 I11 => ?_
      obtain ⟨m', hm, w'⟩ := hNx _ nx
      have kept : ∀ b ∈ fp, ∀ o, s7.heap.get? b = some o → s11.heap.get? b = some o ∧
          (upd H10 D (.lst (acc ++ [yv]))) b = none := fun b hb o e =>
        let z := I11.pin (b, o) (List.mem_append_right _ (List.mem_append_right _ (mem_pinsAt hb e)))
        ⟨z.1, z.2.1⟩
      refine ⟨m', hm, i + 1, _, (I11.unpinned (pins := [])).weak (by rw [← hw8, wipe_length]) (fun j v e => ?_),
        T.keep _ _ _ st7 fun b hb o e => (kept b hb o e).1, fun b hb => ?_, w'⟩
      · rw [← hw8] at e
        exact (wipe_some e).1
      · obtain ⟨o, e, _⟩ := T.obj _ _ st7 b hb
        exact (kept b hb o e).2
  exact codeAny_compStart_list loop (T.self X.A 0 _ _ _ st4 loop)
end
end KX

namespace KX
open PySem PySem.Spec PyProof.Rows L2 L2H
/-! the law's own call, its def promised under CG -/
theorem none_or_at {H : Hp} {a : Addr} (hA : ∀ b, H b ≠ none → b = a) (b : Addr) : H b = none ∨ b = a := by
  cases q : H b with
  | none => exact Or.inl rfl
  | some u => exact Or.inr (hA b (by rw [q]; exact fun z => nomatch z))
theorem lawG_core {P : Program} {w : World} {K : PySem.W.Frag} {mg mb : Str → Option Value} {CX : CXT} {k : Nat} {fa a : Addr}
    {fd : FuncData} {x : Str} {sp : Sp} {s₁ : Shared} {vs : List Value} {H : Hp}
    (KI : K.In s₁.heap) (hns : s₁.heap.Ns mainGlobals mg) (hb : s₁.heap.Ns builtinsNs mb)
    (hbb : ∀ x : Str, x ≠ "__name__" → mb x = bootBuiltins x) (hlim : s₁.heap.NoLimit) (hg : s₁.gens = #[])
    (ha : s₁.heap.get? a = some { cls := .type "list", data := .seq vs.toArray }) (hr : Room k callerA)
    (F : ∀ base : Heap, K.In base → base.Ns mainGlobals mg → FnR P w K mg base CX (CG k) fa fd [x] sp)
    (hbind : ∀ (s : Shared) (u : Value), BindsTo s fd ⟨[u], []⟩ [(x, u)])
    (hCX : ∀ H e s', CX [] H s₁ (fun _ _ _ => False) e s' → False)
    (hO : Only H) (hS : sp [.ref a] H (fun v _ => v = .bl true) fun _ _ _ => False) (hok : HOk P w H s₁.heap)
    (hA : ∀ b, H b ≠ none → b = a) (hK : H a ≠ none → K.lookup a = none) :
    codeAny (model P w) callerA (.call (.ref fa) ⟨[.ref a], []⟩)
      (fun r s' => r = .ok (.ret (.bool true)) ∧ OldK s₁.heap s'.heap ∧ s'.os = s₁.os ∧ AllBare s'.gens) s₁ := by
  have dictFree : ∀ {b : Addr} {o : Obj} {es : Array DictEntry} {ep : Nat}, s₁.heap.get? b = some o → o.data = .dict es ep → H b = none :=
    fun {b o es ep} e d => (none_or_at hA b).resolve_right fun z => by
      subst z
      rw [ha] at e
      cases e
      have d' : Data.seq vs.toArray _ = Data.dict es ep := d
      cases d'
  have ns' : ∀ {b : Addr} {m : Str → Option Value}, s₁.heap.Ns b m → (hidT s₁.heap H).Ns b m := fun {b m} n => by
    obtain ⟨o, es, ep, e, d, r⟩ := n
    exact ⟨o, es, ep, hidT_get e (dictFree e d), d, r⟩
  have KB : K.In (hidT s₁.heap H) := fun b o e => by
    cases q : H b with
    | none => exact hidT_get (KI b o e) q
    | some u =>
      have eb : b = a := hA b (by rw [q]; exact fun z => nomatch z)
      subst eb
      rw [hK (by rw [q]; exact fun z => nomatch z)] at e
      cases e
  have MB : Mod K mg (hidT s₁.heap H) := by
    obtain ⟨mc, h1, h2⟩ := hlim
    exact ⟨KB, ns' hns, ⟨mb, ns' hb, hbb⟩, ⟨mc, ns' h1, h2⟩⟩
  have e0 : Env0 P w K mg (hidT s₁.heap H) callerA [] s₁ H :=
    ⟨rfl, MB, fun b o e => of_hidT e, Nat.le_of_eq (hidT_size _ _), trivial,
      fun b hb => absurd (show b ∈ ([] : List Addr) from hb) (by simp), hok, .of_eq hg⟩
  refine codeAny_mono ((F _ KB (ns' hns)).does callerA [] s₁ H ⟨[.ref a], []⟩ [.ref a] [.ref a] _ _ ⟨hr, rfl⟩ e0
    (hbind s₁ (.ref a)) (.cons rfl .nil) hS) fun r s' h => ?_
  match r, h with
  | .error e, h => exact (hCX H e s' h).elim
  | .ok (.ret u), h =>
    obtain ⟨v, H', os, bare, un, hok', r', q⟩ := h
    have q' : v = .bl true := q
    subst q'
    obtain rfl : u = Value.bool true := r'
    refine ⟨rfl, OldK.of_keep fun b o e => ?_, os, bare⟩
    cases q : H b with
    | none => exact un.keep b o e q (by intro z; exact absurd (show b ∈ ([] : List Addr) from z) (by simp)) (by simp)
    | some u =>
      rcases hO b with z | ⟨ob, xs, z⟩
      · rw [q] at z
        cases z
      · have e1 := (hok b _ z).1
        have e2 := (hok' b _ (un.frzs b ob _ z)).1
        rw [e] at e1
        cases e1
        exact e2
theorem law_callG {P : Program} {w : World} {K : PySem.W.Frag} {mg mb : Str → Option Value} {CX : CXT} {k : Nat} {fa a : Addr}
    {fd : FuncData} {x : Str} {sp : Sp} {s₁ : Shared} {vs : List Value} {ns : List Int}
    (KI : K.In s₁.heap) (hns : s₁.heap.Ns mainGlobals mg) (hb : s₁.heap.Ns builtinsNs mb)
    (hbb : ∀ x : Str, x ≠ "__name__" → mb x = bootBuiltins x) (hlim : s₁.heap.NoLimit) (hg : s₁.gens = #[])
    (ha : s₁.heap.get? a = some { cls := .type "list", data := .seq vs.toArray }) (hi : IntsAre vs ns)
    (hl : ns.length ≤ sizeLine) (hr : Room k callerA)
    (F : ∀ base : Heap, K.In base → base.Ns mainGlobals mg → FnR P w K mg base CX (CG k) fa fd [x] sp)
    (hbind : ∀ (s : Shared) (u : Value), BindsTo s fd ⟨[u], []⟩ [(x, u)])
    (hsp : ∀ H : Hp, Only H → SqL K H a (ns.map V.int) → sp [.ref a] H (fun v _ => v = .bl true) fun _ _ _ => False)
    (hCX : ∀ H e s', CX [] H s₁ (fun _ _ _ => False) e s' → False) :
    codeAny (model P w) callerA (.call (.ref fa) ⟨[.ref a], []⟩)
      (fun r s' => r = .ok (.ret (.bool true)) ∧ OldK s₁.heap s'.heap ∧ s'.os = s₁.os ∧ AllBare s'.gens) s₁ := by
  have rv := vals_ints hi
  cases hk : K.lookup a with
  | some o =>
    have e := KI a o hk
    rw [ha] at e
    cases e
    have O : Only fun _ => none := fun _ => Or.inl rfl
    have S : SqL K (fun _ => none) a (ns.map V.int) :=
      Or.inr ⟨_, vs.toArray, _, hk, rfl, rfl, rfl, by rw [List.size_toArray, hi.length]; exact hl, by simpa using rv⟩
    exact lawG_core KI hns hb hbb hlim hg ha hr F hbind hCX O (hsp _ O S) (fun b u z => nomatch z) (fun b z => absurd rfl z)
      fun z => absurd rfl z
  | none =>
    let H : Hp := fun b => if b = a then
      some (.frz { cls := .type "list", data := .seq vs.toArray } (.lst (ns.map V.int))) else none
    have at_ : H a = some (.frz { cls := .type "list", data := .seq vs.toArray } (.lst (ns.map V.int))) := if_pos rfl
    have off : ∀ {b}, b ≠ a → H b = none := fun h => if_neg h
    have O : Only H := fun b => by
      by_cases h : b = a
      · subst h
        exact Or.inr ⟨_, _, at_⟩
      · exact Or.inl (off h)
    have S : SqL K H a (ns.map V.int) := Or.inl (Or.inr ⟨_, at_⟩)
    refine lawG_core (H := H) KI hns hb hbb hlim hg ha hr F hbind hCX O (hsp _ O S) (fun b u z => ?_)
      (fun b z => Classical.byContradiction fun h => z (off h)) fun _ => hk
    by_cases h : b = a
    · subst h
      rw [at_] at z
      cases z
      exact ⟨ha, by rw [List.length_map]; exact hl, vs, _, rv, ha⟩
    · rw [off h] at z
      cases z
/-- what k_head leaves, by the law's promise under CG -/
theorem walk_ofG {l : PySem.W.OpenLaw} {n k : Nat} {q : Program} {loose : List Str} {XP : (Str → Option Value) → Heap → Prop}
    {YP : World → Heap → Prop} {d : DefRec} {K : Params → PySem.W.Frag} {CX : CXT} {sp : PySem.W.Frag → Sp} {x : Str}
    (hn : l.most = some n) (hn2 : n ≤ sizeLine) (hdf : d.params.defaults = []) (hr : Room k callerA)
    (hY : ∀ (w : World) (h : Heap), YP w h → (K w.params).In h)
    (F : ∀ (w : World) (mg : Str → Option Value) (fa : Addr) (h : Heap), (K w.params).In h → h.Ns mainGlobals mg →
      mg d.name = some (.ref fa) → ∃ fd : FuncData, (∀ (s : Shared) (u : Value), BindsTo s fd ⟨[u], []⟩ [(x, u)]) ∧
        ∀ base : Heap, (K w.params).In base → base.Ns mainGlobals mg →
          FnR l.prog w (K w.params) mg base CX (CG k) fa fd [x] (sp (K w.params)))
    (hsp : ∀ (K : PySem.W.Frag) (H : Hp) (a : Addr) (ns : List Int), ns.length ≤ n → Only H → SqL K H a (ns.map V.int) →
      sp K [.ref a] H (fun v _ => v = .bl true) fun _ _ _ => False)
    (hCX : ∀ (H : Hp) (s : Shared) (e : Value) (s' : Shared), CX [] H s (fun _ _ _ => False) e s' → False) :
    PySem.W.WalkO q loose XP YP l.row.toRowW d [] (fun f vs => PySem.call f vs) := by
  refine Att.attach_call hn hdf fun w s₀ s₁ mg mb fa o pm cd doc a vs ns G Y ho hd hcd hmg hobj hints hlen hg => ?_
  have KI := hY w _ Y
  obtain ⟨fd, hb, hF⟩ := F w mg fa _ KI G.T.g hmg
  exact law_callG KI G.T.g G.T.b G.T.builtins G.T.nolimit hg hobj hints (Nat.le_trans hlen hn2) hr hF hb
    (fun H hO hS => hsp (K w.params) H a ns hlen hO hS) fun H e s' => hCX H s₁ e s'
end KX

namespace KX
open PySem PySem.Spec PyProof.Rows L2
/-! calls by keywords alone -/
section
variable {X : Cx} {CX : CXT} {k : Nat} {f : Addr} {fd : FuncData} {ps ks : List Str} {sp : Sp} {E : XK} {x : Str} {p pos : Pos}
  {kws : List Keyword} {t tk : TA} {g : List Value → List Value → List Value} {gV : List V → List V → List V}
def tCallK (m : Nat) (sp : Sp) (gV : List V → List V → List V) (E : XK) (tk : TA) : TE := fun σ H Q =>
  tk σ H fun zs H2 => zs.length = m ∧ sp (gV [] zs) H2 Q E
theorem pe_callK (F : FnOk X.prog X.w X.K X.mg X.base CX k f fd ps sp) (hr : Room k X.A) (hg : Gl X x) (hm : X.mg x = some (.ref f))
    (hk : PySem.W.keepIn X.K (.ref f) = true) (hb : KBn X.K fd ps 0 ks g gV) (hx : Passes CX X E) (hkw : PK X kws tk)
    (hall : (backToKw pos (keywordEach kws X.env)).all (·.1.isSome) = true := by rfl)
    (hks : (backToKw pos (keywordEach kws X.env)).filterMap (·.1) = ks := by rfl)
    (hdb : (x == ("__debug__" : Str)) = false := by decide)
    (hpl : ((backTo pos (starEach [] X.env)).any (·.1) || (backToKw pos (keywordEach kws X.env)).any (·.1.isNone)) = false := by rfl) :
    PE X (.Call (.Name x p) [] kws pos) (tCallK ks.length sp gV E tk) := by
  refine ⟨fun pins s σ H Q I h => wpAny_Call_Name_kw (ld_glob I hg hm ?_ hdb)⟩
  refine PySem.W.callWith_KW0 (h₀ := X.base) I.ok.mod.kin hk hall (thn (hkw.run pos pins s σ H _ I h) fun ws s2 hh => ?_) hpl
  obtain ⟨zs, H2, I2, rz, l2, q2⟩ := hh
  refine ⟨I2.kIn, ?_⟩
  rw [hks]
  exact run_fnN (us := []) (vs := []) F hr hb hx I2 .nil rz rfl l2 q2
/-- two parameters by keywords, in the other order -/
theorem kb_swap {K : PySem.W.Frag} {fd : FuncData} {a b : Str}
    (h : ∀ u v : Value, bindArgs fd ⟨[], [(b, v), (a, u)]⟩ = pure [(a, u), (b, v)]) :
    KBn K fd [a, b] 0 [b, a] (fun _ ws => ws.reverse) (fun _ zs => zs.reverse) where
  to := fun s us ws _ h0 h2 => by
    match us, ws, h0, h2 with
    | [], [v, u], _, _ => exact .of_eq (h u v)
  rel := fun {vs us zs ws} _ r => by
    induction r with
    | nil => exact .nil
    | cons q _ ih =>
      rw [List.reverse_cons, List.reverse_cons]
      exact ih.append (.cons q .nil)
/-- two parameters by keywords, in their order -/
theorem kb_both {K : PySem.W.Frag} {fd : FuncData} {a b : Str}
    (h : ∀ u v : Value, bindArgs fd ⟨[], [(a, u), (b, v)]⟩ = pure [(a, u), (b, v)]) :
    KBn K fd [a, b] 0 [a, b] (fun _ ws => ws) (fun _ zs => zs) where
  to := fun s us ws _ h0 h2 => by
    match us, ws, h0, h2 with
    | [], [u, v], _, _ => exact .of_eq (h u v)
  rel := fun _ r => r
/-- the second one of two by keyword -/
theorem kb_second {K : PySem.W.Frag} {fd : FuncData} {a b : Str}
    (h : ∀ u v : Value, bindArgs fd ⟨[u], [(b, v)]⟩ = pure [(a, u), (b, v)]) :
    KBn K fd [a, b] 1 [b] (fun us ws => us ++ ws) (fun vs zs => vs ++ zs) where
  to := fun s us ws _ h0 h2 => by
    match us, ws, h0, h2 with
    | [u], [v], _, _ => exact .of_eq (h u v)
  rel := fun r1 r2 => r1.append r2
end
/-! // by any number that is not 0 -/
def CDivA (_ j : Int) : Prop := j ≠ 0 ∧ j.natAbs.log2 < 9000
theorem op_fdivA {X : Cx} : OpR X (binaryOp .FloorDiv) (rI CDivA fun i j => .int (i.fdiv j)) := opI fun i j _ _ _ _ _ hc q =>
  floordiv_int hc.1 q (.inl (PyProof.noPylong_of_log2 hc.2))
/-! which values are integers -/
inductive Kin (K : PySem.W.Frag) (H : Hp) : V → Option Int → Prop
  | int (i : Int) : Kin K H (.int i) (some i)
  | oth {x : V} {n : String} {b1 b2 : Bool} (t : TyX K H x (.type n)) (h1 : kitB n "int" = some b1) (h2 : kitB n "bool" = some b2)
      (h : (b1 && !b2) = false) : Kin K H x none
theorem Kin.ty {K : PySem.W.Frag} {H : Hp} {x : V} {o : Option Int} (k : Kin K H x o) :
    ∃ n b1 b2, TyX K H x (.type n) ∧ kitB n "int" = some b1 ∧ kitB n "bool" = some b2 ∧ (b1 && !b2) = o.isSome := by
  cases k with
  | int i => exact ⟨"int", true, false, .base (.int i), by decide +kernel, by decide +kernel, rfl⟩
  | oth t h1 h2 h => exact ⟨_, _, _, t, h1, h2, h⟩
end KX

namespace KX
open PySem PySem.Spec PyProof.Rows L2
section
variable {X : Cx} {C fI : Addr} {en qn : Str}
theorem pmk_errZ {a : Expr} {ta : TA} {p pos : Pos} {k : Nat} (T : PySem.ErrX.ErrTxt X.K X.mg en qn C fI) (hr : Room k X.A) (ha : PA X [a] ta) (hg : Gl X en := by rfl) (hdb : (en == ("__debug__" : Str)) = false := by decide)
    (he : starEach (a :: []) X.env = (false, eval a X.env) :: starEach [] X.env := by rfl) (hpl : (backTo pos (starEach [] X.env)).any (·.1) = false := by rfl) :
    L2.PMk X (.Call (.Name en p) [a] [] pos) (tMkErr C ta) := fun pins s σ H Q I h => by
  refine wpAny_mono (pmk_err T hr ha hg hdb he hpl pins s σ H Q I h) (fun u s' hu => ?_) fun _ _ x => x
  obtain ⟨a, oe, vs, sI, H', cls, d, h1, h2, h3, h4, h5, hz, h6⟩ := hu
  exact ⟨a, oe, vs, sI, H', cls, d, h1, h2, h3, h4, h5, hz.zc, h6⟩
theorem ps_raiseErrZ {a : Expr} {ta : TA} {W : WX} {p pos pos2 : Pos} {k : Nat} (hc : X.calm = true) (T : PySem.ErrX.ErrTxt X.K X.mg en qn C fI) (hr : Room k X.A) (tk : L2.Takes X W) (ha : PA X [a] ta) (hg : Gl X en := by rfl) (hdb : (en == ("__debug__" : Str)) = false := by decide)
    (he : starEach (a :: []) X.env = (false, eval a X.env) :: starEach [] X.env := by rfl) (hpl : (backTo pos (starEach [] X.env)).any (·.1) = false := by rfl) :
    PS X (.Raise (some (.Call (.Name en p) [a] [] pos)) none pos2) (tRaiseErr C W ta) := L2.ps_raise hc tk (pmk_errZ T hr ha hg hdb he hpl)
end
end KX

namespace KX
open PySem PySem.Spec PyProof.Rows L2 L2H LamX
/-! the law's own call under CG, with one table of code objects -/
section
variable {P : Program} {w : World} {K : PySem.W.Frag} {mg mb : Str → Option Value} {CX : CXT} {k : Nat} {fa a c t : Addr}
  {fd : FuncData} {x : Str} {sp : Sp} {s₁ : Shared} {vs : List Value}
/-- only the script and the table are tracked -/
structure OnlyT (H : Hp) (a t : Addr) : Prop where
  tab : H t = some (.tbl #[])
  who : ∀ b, H b ≠ none → b = a ∨ b = t
  frz : ∀ u, H a = some u → ∃ o xs, u = .frz o (.lst xs)
theorem OnlyT.off {H : Hp} {b : Addr} (O : OnlyT H a t) (h1 : b ≠ a) (h2 : b ≠ t) : H b = none :=
  Classical.byContradiction fun z => (O.who b z).elim h1 h2
theorem lawT_core {H : Hp}
    (KI : K.In s₁.heap) (hns : s₁.heap.Ns mainGlobals mg) (hb : s₁.heap.Ns builtinsNs mb)
    (hbb : ∀ x : Str, x ≠ "__name__" → mb x = bootBuiltins x) (hlim : s₁.heap.NoLimit) (hg : s₁.gens = #[])
    (ht : s₁.heap.get? t = some { cls := .none, data := .fields #[] }) (nt : K.lookup t = none) (C : PySem.W.CodeHd s₁.heap c t)
    (hbm : ∃ (bm : Addr) (ob : Obj), mg "__builtins__" = some (.ref bm) ∧ bm ≠ builtinsNs ∧ s₁.heap.get? bm = some ob ∧ ob.cls = .type "module" ∧ ob.dict = some builtinsNs ∧ ob.data = .plain)
    (ha : s₁.heap.get? a = some { cls := .type "list", data := .seq vs.toArray }) (hr : Room k callerA)
    (F : ∀ base : Heap, K.In base → base.Ns mainGlobals mg → TabB base mg c t → FnR P w K mg base CX (CG k) fa fd [x] sp)
    (hbind : ∀ (s : Shared) (u : Value), BindsTo s fd ⟨[u], []⟩ [(x, u)])
    (hCX : ∀ H e s', CX [] H s₁ (fun _ _ _ => False) e s' → False)
    (O : OnlyT H a t) (hS : sp [.ref a] H (fun v _ => v = .bl true) fun _ _ _ => False) (hok : HOk P w H s₁.heap)
    (hK : H a ≠ none → K.lookup a = none) :
    codeAny (model P w) callerA (.call (.ref fa) ⟨[.ref a], []⟩)
      (fun r s' => r = .ok (.ret (.bool true)) ∧ OldK s₁.heap s'.heap ∧ s'.os = s₁.os ∧ AllBare s'.gens) s₁ := by
  have sees : ∀ {b : Addr} {o : Obj}, s₁.heap.get? b = some o → (∀ vs n, o.data ≠ .seq vs n) → o.data ≠ .fields #[] →
      (hidT s₁.heap H).get? b = some o := fun {b o} e h1 h2 => hidT_get e (O.off (fun z => by
        subst z
        rw [ha] at e
        cases e
        exact h1 _ _ rfl) fun z => by
        subst z
        rw [ht] at e
        cases e
        exact h2 rfl)
  have nsH : ∀ {b : Addr} {m : Str → Option Value}, s₁.heap.Ns b m → (hidT s₁.heap H).Ns b m := fun {b m} n => by
    obtain ⟨o, es, ep, e, d, r⟩ := n
    exact ⟨o, es, ep, sees e (fun vs n z => by rw [d] at z; cases z) (fun z => by rw [d] at z; cases z), d, r⟩
  have KB : K.In (hidT s₁.heap H) := fun b o e => hidT_get (KI b o e) (Classical.byContradiction fun z => by
    rcases O.who b z with h | h
    · subst h
      rw [hK z] at e
      cases e
    · subst h
      rw [nt] at e
      cases e)
  have MB : Mod K mg (hidT s₁.heap H) := by
    obtain ⟨mc, h1, h2⟩ := hlim
    exact ⟨KB, nsH hns, ⟨mb, nsH hb, hbb⟩, ⟨mc, nsH h1, h2⟩⟩
  have TB : TabB (hidT s₁.heap H) mg c t := by
    refine ⟨?_, ?_, fun z => ?_⟩
    · obtain ⟨o, us, file, tf, flags, tg, inF, text, tt, e1, r1, r2, r3, rest⟩ := C
      refine ⟨o, us, file, tf, flags, tg, inF, text, tt, sees e1 (fun vs n z => ?_) (fun z => ?_), r1, r2, r3, rest⟩
      · rw [r2] at z
        cases z
      · rw [r2] at z
        cases z
        simp at r3
    · obtain ⟨bm, ob, b1, b2, b3, b4, b5, b6⟩ := hbm
      refine ⟨bm, ob, b1, b2, fun q => ?_, fun q => ?_, sees b3 (fun vs n z => by rw [b6] at z; cases z) (fun z => by rw [b6] at z; cases z), b4, b5, b6⟩
      · obtain ⟨o, es, ep, e, hd, _⟩ := hns
        rw [q, e] at b3
        cases b3
        rw [hd] at b6
        cases b6
      · rw [q, ht] at b3
        cases b3
        cases b6
    · obtain ⟨o, es, ep, e, hd, _⟩ := hns
      rw [z, ht] at e
      cases e
      cases hd
  have e0 : Env0 P w K mg (hidT s₁.heap H) callerA [] s₁ H :=
    ⟨rfl, MB, fun b o e => of_hidT e, Nat.le_of_eq (hidT_size _ _), trivial,
      fun b hb => absurd (show b ∈ ([] : List Addr) from hb) (by simp), hok, .of_eq hg⟩
  refine codeAny_mono ((F _ KB (nsH hns) TB).does callerA [] s₁ H ⟨[.ref a], []⟩ [.ref a] [.ref a] _ _ ⟨hr, rfl⟩ e0
    (hbind s₁ (.ref a)) (.cons rfl .nil) hS) fun r s' h => ?_
  match r, h with
  | .error e, h => exact (hCX H e s' h).elim
  | .ok (.ret u), h =>
    obtain ⟨v, H', os, bare, un, hok', r', q⟩ := h
    have q' : v = .bl true := q
    subst q'
    obtain rfl : u = Value.bool true := r'
    obtain ⟨more, hm⟩ : ∃ more : Array Value, s'.heap.get? t = some { cls := .none, data := .fields more } := by
      obtain ⟨more, z⟩ := un.tbls t #[] O.tab
      exact ⟨_, hok' t _ z⟩
    have other : ∀ b o, b ≠ t → s₁.heap.get? b = some o → s'.heap.get? b = some o := fun b o nb e => by
      cases q : H b with
      | none => exact un.keep b o e q (by intro z; exact absurd (show b ∈ ([] : List Addr) from z) (by simp)) (by simp)
      | some u =>
        have eb : b = a := (O.who b (by rw [q]; exact fun z => nomatch z)).resolve_right nb
        subst eb
        obtain ⟨ob, xs, rfl⟩ := O.frz _ q
        have e1 := (hok b _ q).1
        have e2 := (hok' b _ (un.frzs b ob _ q)).1
        rw [e] at e1
        cases e1
        exact e2
    refine ⟨rfl, ⟨fun b o e => ?_, fun b o e => ?_⟩, os, bare⟩
    · by_cases h : b = t
      · subst h
        rw [ht] at e
        cases e
        exact .inr (.inl ⟨(C.tab ht).isCodeTable, rfl, #[], more, rfl, by rw [Array.empty_append]; exact hm⟩)
      · exact .inl (other b o h e)
    · by_cases h : b = t
      · subst h
        exact ⟨_, hm⟩
      · exact ⟨o, other b o h e⟩
theorem law_callT {ns : List Int}
    (KI : K.In s₁.heap) (hns : s₁.heap.Ns mainGlobals mg) (hb : s₁.heap.Ns builtinsNs mb)
    (hbb : ∀ x : Str, x ≠ "__name__" → mb x = bootBuiltins x) (hlim : s₁.heap.NoLimit) (hg : s₁.gens = #[])
    (ht : s₁.heap.get? t = some { cls := .none, data := .fields #[] }) (nt : K.lookup t = none) (C : PySem.W.CodeHd s₁.heap c t)
    (hbm : ∃ (bm : Addr) (ob : Obj), mg "__builtins__" = some (.ref bm) ∧ bm ≠ builtinsNs ∧ s₁.heap.get? bm = some ob ∧ ob.cls = .type "module" ∧ ob.dict = some builtinsNs ∧ ob.data = .plain)
    (ha : s₁.heap.get? a = some { cls := .type "list", data := .seq vs.toArray }) (hi : IntsAre vs ns) (hl : ns.length ≤ sizeLine) (hr : Room k callerA)
    (F : ∀ base : Heap, K.In base → base.Ns mainGlobals mg → TabB base mg c t → FnR P w K mg base CX (CG k) fa fd [x] sp)
    (hbind : ∀ (s : Shared) (u : Value), BindsTo s fd ⟨[u], []⟩ [(x, u)])
    (hsp : ∀ H : Hp, H t = some (.tbl #[]) → SqL K H a (ns.map V.int) → sp [.ref a] H (fun v _ => v = .bl true) fun _ _ _ => False)
    (hCX : ∀ H e s', CX [] H s₁ (fun _ _ _ => False) e s' → False) :
    codeAny (model P w) callerA (.call (.ref fa) ⟨[.ref a], []⟩)
      (fun r s' => r = .ok (.ret (.bool true)) ∧ OldK s₁.heap s'.heap ∧ s'.os = s₁.os ∧ AllBare s'.gens) s₁ := by
  have rv := vals_ints hi
  have nat : a ≠ t := fun z => by
    rw [z, ht] at ha
    cases ha
  cases hk : K.lookup a with
  | some o =>
    have e := KI a o hk
    rw [ha] at e
    cases e
    let H : Hp := fun b => if b = t then some (.tbl #[]) else none
    have atT : H t = some (.tbl #[]) := if_pos rfl
    have off : ∀ {b}, b ≠ t → H b = none := fun h => if_neg h
    have S : SqL K H a (ns.map V.int) :=
      Or.inr ⟨_, vs.toArray, _, hk, rfl, rfl, rfl, by rw [List.size_toArray, hi.length]; exact hl, by simpa using rv⟩
    have O : OnlyT H a t := ⟨atT, fun b z => Or.inr (Classical.byContradiction fun h => z (off h)), fun u z => by rw [off nat] at z; cases z⟩
    refine lawT_core KI hns hb hbb hlim hg ht nt C hbm ha hr F hbind hCX O (hsp _ atT S) (fun b u z => ?_) fun z => absurd (off nat) z
    by_cases h : b = t
    · subst h
      rw [atT] at z
      cases z
      exact ht
    · rw [off h] at z
      cases z
  | none =>
    let H : Hp := fun b => if b = a then some (.frz { cls := .type "list", data := .seq vs.toArray } (.lst (ns.map V.int))) else if b = t then some (.tbl #[]) else none
    have atA : H a = some (.frz { cls := .type "list", data := .seq vs.toArray } (.lst (ns.map V.int))) := if_pos rfl
    have atT : H t = some (.tbl #[]) := (if_neg (Ne.symm nat)).trans (if_pos rfl)
    have off : ∀ {b}, b ≠ a → b ≠ t → H b = none := fun h h' => (if_neg h).trans (if_neg h')
    have S : SqL K H a (ns.map V.int) := Or.inl (Or.inr ⟨_, atA⟩)
    have O : OnlyT H a t := ⟨atT, fun b z => by
      by_cases h : b = a
      · exact Or.inl h
      · exact Or.inr (Classical.byContradiction fun h' => z (off h h')), fun u z => by rw [atA] at z; cases z; exact ⟨_, _, rfl⟩⟩
    refine lawT_core KI hns hb hbb hlim hg ht nt C hbm ha hr F hbind hCX O (hsp _ atT S) (fun b u z => ?_) fun _ => hk
    by_cases h : b = a
    · subst h
      rw [atA] at z
      cases z
      exact ⟨ha, by rw [List.length_map]; exact hl, vs, _, rv, ha⟩
    · by_cases h' : b = t
      · subst h'
        rw [atT] at z
        cases z
        exact ht
      · rw [off h h'] at z
        cases z
end
/-- what k_head leaves, by the law's promise under CG; t: the table of the law's code object -/
theorem walk_ofT {l : PySem.W.OpenLaw} {n k : Nat} {q : Program} {loose : List Str} {XP : (Str → Option Value) → Heap → Prop}
    {YP : World → Heap → Prop} {d : DefRec} {K : Params → PySem.W.Frag} {CX : CXT} {x : Str} {c t : Addr} {sp : PySem.W.Frag → Sp}
    (hn : l.most = some n) (hn2 : n ≤ sizeLine) (hdf : d.params.defaults = []) (hr : Room k callerA)
    (hY : ∀ (w : World) (h : Heap), YP w h → (K w.params).In h)
    (hT : ∀ (w : World) (h : Heap), YP w h → h.get? t = some { cls := .none, data := .fields #[] })
    (hcd : ∀ w : World, PySem.W.codeHdIn (K w.params) c t = true) (nt : ∀ w : World, (K w.params).lookup t = none)
    (F : ∀ (w : World) (mg : Str → Option Value) (fa : Addr) (h : Heap), (K w.params).In h → h.Ns mainGlobals mg →
      mg d.name = some (.ref fa) → ∃ fd : FuncData, (∀ (s : Shared) (u : Value), BindsTo s fd ⟨[u], []⟩ [(x, u)]) ∧
        ∀ base : Heap, (K w.params).In base → base.Ns mainGlobals mg → TabB base mg c t →
          FnR l.prog w (K w.params) mg base CX (CG k) fa fd [x] (sp (K w.params)))
    (hsp : ∀ (K : PySem.W.Frag) (H : Hp) (a : Addr) (ns : List Int), ns.length ≤ n → H t = some (.tbl #[]) → SqL K H a (ns.map V.int) →
      sp K [.ref a] H (fun v _ => v = .bl true) fun _ _ _ => False)
    (hCX : ∀ (H : Hp) (s : Shared) (e : Value) (s' : Shared), CX [] H s (fun _ _ _ => False) e s' → False) :
    PySem.W.WalkO q loose XP YP l.row.toRowW d [] (fun f vs => PySem.call f vs) := by
  refine Att.attach_call hn hdf fun w s₀ s₁ mg mb fa o pm cd doc a vs ns G Y ho hd hcd' hmg hobj hints hlen hg => ?_
  have KI := hY w _ Y
  obtain ⟨fd, hb, hF⟩ := F w mg fa _ KI G.T.g hmg
  exact law_callT KI G.T.g G.T.b G.T.builtins G.T.nolimit hg (hT w _ Y) (nt w) (PySem.W.codeHd_of_K KI (hcd w)) G.T.bmain hobj hints (Nat.le_trans hlen hn2) hr hF hb
    (fun H hH hS => hsp (K w.params) H a ns hlen hH hS) fun H e s' => hCX H s₁ e s'
end KX

namespace KX
open PySem PySem.Spec PyProof.Rows L2
/-! lists or tuples walked -/
theorem PI.or {X : Cx} {tg l : Expr} {w1 w2 : TI} (h1 : PI X tg l w1) (h2 : PI X tg l w2) :
    PI X tg l (fun σ H R => w1 σ H R ∨ w2 σ H R) :=
  ⟨fun pins s σ H R I h => h.elim (h1.run pins s σ H R I) (h2.run pins s σ H R I)⟩
theorem CallR.or {X : Cx} {f : Value} {r1 r2 : List V → Hp → VK → Prop} (h1 : CallR X f r1) (h2 : CallR X f r2) :
    CallR X f (fun xs H Q => r1 xs H Q ∨ r2 xs H Q) :=
  fun pins s σ H xs us Q I r h => h.elim (h1 pins s σ H xs us Q I r) (h2 pins s σ H xs us Q I r)
/-! sorted of a tuple of ints -/
section
variable {prog : Program} {w : World} {A : Around} {s : Shared} {E : Value → Shared → Prop}
theorem collect_tup {l : Addr} {vs : List Value} {n : Nat} {dd : Option Addr} {sl : Array (Option Value)}
    {Q : List Value → Shared → Prop}
    (hl : s.heap.get? l = some ⟨.type "tuple", dd, .seq vs.toArray n, sl⟩) (hz : vs.length ≤ sizeLine)
    (h : Q vs { s with heap := ((s.heap.push (seqObj "list" #[] 0)).update
      s.heap.objs.size (Obj.mapSeq (· ++ vs.toArray))) }) :
    wpAny (model prog w) A (collect (.ref l)) Q E s := by
  unfold collect
  apply wpAny_bind
  apply wpAny_runValue
  refine codeAny_builtin
    entry_proto_collect' ?_
  show wpAny _ _ (do
    again (.builtin "list.__iadd__" ⟨[← newList [], .ref l], []⟩)) _ _ s
  apply wpAny_bind
  refine wpAny_newList
    (wpAny_pure ⟨Code.quiet_builtin _ (by decide +kernel), ?_⟩)
  refine codeAny_builtin
    entry_list_iadd' ?_
  show wpAny _ _
    (Builtin.List.listExtendWith (.ref s.heap.objs.size) (.ref l) (.ref s.heap.objs.size)) _ _
    { s with heap := s.heap.push (seqObj "list" #[] 0) }
  unfold Builtin.List.listExtendWith
  have hl' : (s.heap.push (seqObj "list" #[] 0)).get? l = some ⟨.type "tuple", dd, .seq vs.toArray n, sl⟩ :=
    Heap.get?_push_of_some _ hl
  apply wpAny_bind
  refine wpAny_typeOf (T := "tuple")
    ⟨_, hl', rfl⟩ ?_
  have ht : (Value.type "tuple" == Value.type "tuple") = true := by rfl
  rw [if_pos (by rw [ht]; simp)]
  apply wpAny_bind
  refine listItems_at hl' rfl ?_
  apply wpAny_bind
  have hn : (s.heap.push (seqObj "list" #[] 0)).get? s.heap.objs.size = some (seqObj "list" #[] 0) :=
    Heap.get?_push_size _ rfl
  refine listItems_at (xs := #[]) (n := 0) hn rfl ?_
  rw [if_neg (by simp)]
  apply wpAny_bind
  refine listUpdate_at (xs := #[]) (n := 0) hn rfl ?_ (Nat.zero_le _)
    (by
      show (#[] ++ vs.toArray).size ≤ sizeLine + 1
      simp only [Array.size_append, List.size_toArray, List.length_nil]
      omega)
  apply wpAny_pure
  show wpAny (model prog w) A (do
      match (← load s.heap.objs.size).data with
      | .seq xs _ => pure xs.toList
      | _ => unsupported "internal:collect") Q E
    { s with heap := ((s.heap.push (seqObj "list" #[] 0)).update
      s.heap.objs.size (Obj.mapSeq (· ++ vs.toArray))) }
  apply wpAny_bind
  refine wpAny_load (get?_update_seq hn _) ?_
  show wpAny _ _ (pure ((#[] : Array Value) ++ vs.toArray).toList) Q E _
  have e : ((#[] : Array Value) ++ vs.toArray).toList = vs := by simp
  rw [e]
  exact wpAny_pure h
theorem sorted_tup {l : Addr} {vs : List Value} {ns : List Int} {n : Nat} {dd : Option Addr} {sl : Array (Option Value)}
    {Q : Value → Shared → Prop}
    (hl : s.heap.get? l = some ⟨.type "tuple", dd, .seq vs.toArray n, sl⟩) (hI : IntsAre vs ns) (h64 : vs.length < 64)
    (h : ∀ (out : Array Value) (ns' : List Int), IntsAre out.toList ns' → ns'.Perm ns → ns'.Pairwise (· ≤ ·) →
      Q (.ref (s.heap.objs.size + 1)) { s with heap := sortedAll s.heap vs out }) :
    wpAny (model prog w) A (call (.builtin "sorted") [.ref l]) Q E s := by
  refine Calls.call_function_entry
    kind_sorted plain_sorted entry_sorted (args_sorted1 _) ?_
  unfold Builtin.«sorted»
  refine wpAny_bind (m := checkCount "sorted" 1 1 _)
    (wpAny_pure ?_)
  apply wpAny_bind
  refine collect_tup hl (Nat.le_of_lt (Nat.lt_trans h64 (by decide))) ?_
  apply wpAny_bind
  refine wpAny_newList ?_ (hsz := Nat.le_of_lt (Nat.lt_trans h64 (by decide)))
  have hs2 : ((s.heap.push (seqObj "list" #[] 0)).update s.heap.objs.size
      (Obj.mapSeq (· ++ vs.toArray))).objs.size = s.heap.objs.size + 1 := by
    rw [Heap.size_update]
    exact Heap.size_push ..
  have ho : (((s.heap.push (seqObj "list" #[] 0)).update s.heap.objs.size
      (Obj.mapSeq (· ++ vs.toArray))).push (seqObj "list" vs.toArray 0)).get? (s.heap.objs.size + 1) =
      some (seqObj "list" vs.toArray 0) := by
    rw [← hs2]
    exact Heap.get?_push_size _ rfl
  show wpAny _ _ _ _ _
    { s with heap := (((s.heap.push (seqObj "list" #[] 0)).update s.heap.objs.size
      (Obj.mapSeq (· ++ vs.toArray))).push (seqObj "list" vs.toArray 0)) }
  rw [hs2]
  apply wpAny_bind
  apply wpAny_holding
  refine wpAny_call_entry slot_list_sort ⟨_, ho, rfl⟩ entry_list_sort ?_ (args_list_sort _)
  refine list_sort_tree ho hI h64 fun out ns' a1 a2 a3 => ⟨_, rfl, ?_⟩
  exact wpAny_pure ⟨_, rfl, h out ns' a1 a2 a3⟩
end
def rSortT (K : PySem.W.Frag) : List V → Hp → VK → Prop := fun vs H Q =>
  ∃ (a : Addr) (ns : List Int), vs = [V.ref a] ∧ SqT K H a (ns.map V.int) ∧ ns.length < 64 ∧
    ∀ (ns' : List Int) (p : Addr), ns'.Perm ns → ns'.Pairwise (· ≤ ·) → H p = none →
      Q (.ref p) (upd H p (.lst (ns'.map V.int)))
theorem cr_sortT {X : Cx} : CallR X (.builtin "sorted") (rSortT X.K) := by
  intro pins s σ H vs us Q I r h
  obtain ⟨a, ns, rfl, hs, h64, q⟩ := h
  obtain ⟨its, rv, ⟨⟨cls, dd, data, sl⟩, ho, hc, n, hd⟩, _⟩ := I.tuple hs
  simp only at hc hd
  subst hc hd
  rw [Vals.ref1 r]
  have hi := rv.ints
  refine sorted_tup ho hi (by rw [hi.length]; exact h64) fun out ns' h1 h2 h3 => ?_
  obtain ⟨ep, he⟩ := sortedAll_at s.heap its out
  have hlen : (ns'.map V.int).length ≤ sizeLine := by
    rw [List.length_map, h2.length_eq]
    exact Nat.le_of_lt (Nat.lt_trans h64 (by decide))
  refine ⟨.ref _, upd H (s.heap.objs.size + 1) (.lst (ns'.map V.int)), ?_, rfl,
    q ns' _ h2 h3 (I.hok.fresh (Nat.le_succ _))⟩
  exact I.laid (t' := s.toks) (fun _ _ => sortedAll_old) (Nat.le_succ _)
    ⟨hlen, out.toList, ep, vals_of_ints h1, he⟩
/-! t.count(k) of a tuple of ints -/
def rCntT (K : PySem.W.Frag) : V → List V → Hp → VK → Prop := fun x xs H Q =>
  ∃ (p : Addr) (ns : List Int) (k : Int), x = .ref p ∧ xs = [.int k] ∧ SqT K H p (ns.map V.int) ∧
    Q (.int (ns.count k : Nat)) H
theorem mt_tcount {X : Cx} : MtR X "tuple.count" (rCntT X.K) := by
  intro pins s σ H x xs v us Q I rx rxs h
  obtain ⟨p, ns, k, rfl, rfl, hs, q⟩ := h
  cases rx
  obtain ⟨u, rfl, ru⟩ := rxs.one
  obtain ⟨t, rfl⟩ := ru
  obtain ⟨its, rv, ⟨⟨cls, dd, data, sl⟩, ho, hc, n, hd⟩, _⟩ := I.tuple hs
  simp only at hc hd
  subst hc hd
  have hi := ints_of_vals rv
  refine call_meets PySem.F.slot_tuple_count ⟨_, ho, rfl⟩ PySem.F.entry_tuple_count
    (PySem.F.args_tuple_count_2 _ _) (SeqAt.tuple_countAt p its.toArray n dd sl (.int k t) (eqk k)) ⟨ho, ?_, ?_⟩
  · exact fun y hy => (eqk_gives hi y (by simpa using hy)).at _ _
  · have ec : its.toArray.toList.countP (eqk k) = ns.count k := eqk_count hi
    refine ⟨.int (ns.count k : Nat), H, I.tok _, ⟨s.toks, ?_⟩, q⟩
    show Value.int ((its.toArray.toList.countP (eqk k) : Nat) : Int) s.toks = _
    rw [ec]
end KX

namespace KX
open PySem PySem.Spec PyProof.Rows L2
/-! a tuple, frozen or not -/
abbrev Tup (H : Hp) (a : Addr) (xs : List V) : Prop := Rd H a (.tup xs)
theorem Tup.of {H : Hp} {a : Addr} {xs : List V} (h : H a = some (.tup xs)) : Tup H a xs := Or.inl h
theorem Tup.sq {K : PySem.W.Frag} {H : Hp} {a : Addr} {xs : List V} (h : Tup H a xs) : SqT K H a xs := Or.inl h
theorem Tup.ty {K : PySem.W.Frag} {H : Hp} {a : Addr} {xs : List V} (h : Tup H a xs) : TyX K H (.ref a) (.type "tuple") := by
  rcases h with h | ⟨o, h⟩
  · exact .base (.tup h)
  · exact .fTuple h
theorem Tup.same {H H' : Hp} {a : Addr} {xs : List V} (h : Tup H a xs) (s : Same H H') : Tup H' a xs := by
  rcases h with h | ⟨o, h⟩
  · exact Or.inl (s _ _ h)
  · exact Or.inr ⟨o, s _ _ h⟩
/-- a tuple whose object is known: without a dict -/
def TupF (H : Hp) (a : Addr) (xs : List V) : Prop := ∃ o : Obj, H a = some (.frz o (.tup xs)) ∧ o.cls = .type "tuple" ∧ o.dict = none
theorem TupF.tup {H : Hp} {a : Addr} {xs : List V} (h : TupF H a xs) : Tup H a xs := by
  obtain ⟨o, h, _⟩ := h
  exact Or.inr ⟨o, h⟩
theorem TupF.same {H H' : Hp} {a : Addr} {xs : List V} (h : TupF H a xs) (s : Same H H') : TupF H' a xs := by
  obtain ⟨o, h, z⟩ := h
  exact ⟨o, s _ _ h, z⟩
section
variable {X : Cx}
/-- tuple(l), l a list: the new tuple's object is known -/
def kTupF (K : PySem.W.Frag) (x : V) (H : Hp) (Q : VK) : Prop := ∃ p xs, x = .ref p ∧ SqL K H p xs ∧
  ∀ q (o : Obj), H q = none → o.cls = .type "tuple" → o.dict = none → Q (.ref q) (upd H q (.frz o (.tup xs)))
theorem pe_tupleF {a : Expr} {ta : TE} {p pos : Pos} (hg : Gl X "tuple") (hm : X.mg "tuple" = none) (ha : PE X a ta)
    (na : starEach [a] X.env = (false, eval a X.env) :: starEach [] X.env := by rfl) :
    PE X (.Call (.Name "tuple" p) [a] [] pos) (tThen ta (kTupF X.K)) := by
  refine ⟨fun pins s σ H Q I h => Call_ (ld_blt I hg hm boot_tuple (PyProof.Rows.callWith_type1 (one_arg ha I h (fun v s2 x H2 I2 r q => ?_) na) na))⟩
  obtain ⟨l, xs, rfl, hs, hq⟩ := q
  obtain rfl : v = .ref l := r
  obtain ⟨its, rv, pl, hz⟩ := I2.list hs
  have hsz : its.toArray.size ≤ sizeLine := by
    rw [List.size_toArray, ← rv.length]
    exact hz
  refine call_tuple_list pl.isList (fun h' hk => ?_) hsz
  have J : Inv X pins σ H2 { s2 with heap := h' } := I2.kept (t' := s2.toks) hk
  have nq : H2 h'.objs.size = none := J.hok.fresh (Nat.le_refl _)
  refine ⟨.ref h'.objs.size, _, J.laid (t' := s2.toks) (fun b o e => Heap.get?_push_of_some _ e) (Nat.le_refl _) ?_, rfl,
    hq h'.objs.size { cls := .type "tuple", data := .seq its.toArray } nq rfl rfl⟩
  exact ⟨Heap.get?_push_size _ rfl, hz, its, rv, IsTup.new _ _⟩
/-- a method of such a tuple, called -/
def tBMF (r : V → List V → Hp → VK → Prop) (to : TE) (t : TA) : TE := fun σ H Q =>
  to σ H fun x H1 => (∃ a xs, x = .ref a ∧ TupF H1 a xs) ∧ t σ H1 fun ys H2 => r x ys H2 Q
theorem pe_bmF {o e : Expr} {to : TE} {t : TA} {name : Str} {apos cpos : Pos} {id : String} {r : V → List V → Hp → VK → Prop}
    (slot : Slot "tuple" name id) (hty : typeOf (.builtin id) = pure (.type "method_descriptor")) (hm : MtR X id r) (ho : PE X o to) (ha : PA X [e] t)
    (hbase : attributeBase o name X.env (eval o X.env) = eval o X.env := by rfl)
    (hfew : ((backTo cpos (starEach [e] X.env)).all (fun x => !x.1) && (backToKw cpos (keywordEach [] X.env)).all (fun x => x.1.isSome)
      && decide ([e].length + ([] : List Keyword).length + (if ([] : List Keyword).isEmpty then 0 else 1) < 30)) = true := by rfl)
    (hline : (apos.endLine == cpos.line) = true := by rfl)
    (hs : starEach [e] X.env = (false, eval e X.env) :: starEach [] X.env := by rfl) (hplain : (backTo cpos (starEach [] X.env)).any (·.1) = false := by rfl) :
    PE X (.Call (.Attribute o name apos) [e] [] cpos) (tBMF r to t) := by
  constructor
  intro pins s σ H Q I h
  refine wpAny_Call_method_late hbase hfew hline rfl (thn (ho.run pins s σ H _ I h) fun v s1 hh => ?_)
  obtain ⟨x, H1, I1, r1, ⟨a, xs, rfl, ob, hob, hc, hd⟩, q1⟩ := hh
  obtain rfl : v = .ref a := r1
  have hget : s1.heap.get? a = some ob := (I1.hok a _ hob).1
  refine ⟨"tuple", id, PySem.F.plainAttrs_tuple, slot, hty, ⟨ob, hget, hc⟩, fun b z => by cases z; exact ⟨ob, hget, hd⟩, ?_⟩
  have hA := ha.run cpos pins s1 σ H1 _ I1 q1
  rw [hs] at hA ⊢
  refine Calls.callWith_builtin (by
    show (false || (backTo cpos (starEach [] X.env)).any (·.1)) = false
    rw [hplain] <;> rfl) (Calls.evalArgs_plain ?_)
  refine thn hA fun us s2 hz => ?_
  obtain ⟨vs, H2, I2, r2, q2⟩ := hz
  exact hm pins s2 σ H2 (.ref a) vs (.ref a) us Q I2 rfl r2 q2
end
end KX

namespace KX
open PySem PySem.Spec PyProof.Rows L2
/-! t + u and t[lo:hi] of tuples, by what they hold -/
theorem Same.fresh {H : Hp} {a : Addr} {o : HO} (n : H a = none) : Same H (upd H a o) := fun b u h => by
  rw [upd_ne (fun z => by rw [z, n] at h; cases h)]
  exact h
def rCatW : R2 := fun x y H Q => ∃ a b xs ys, x = .ref a ∧ y = .ref b ∧ Tup H a xs ∧ Tup H b ys ∧ xs.length + ys.length ≤ sizeLine ∧
  ∀ H' p, Same H H' → Tup H' p (xs ++ ys) → Q (.ref p) H'
theorem op_catW {X : Cx} : OpR X (binaryOp .Add) rCatW := by
  intro pins s σ H x y v u Q I rx ry h
  obtain ⟨a, b, xs, ys, e1, e2, ha, hb, hz, q⟩ := h
  refine op_catA pins s σ H x y v u Q I rx ry ⟨a, b, xs, ys, e1, e2, ha.sq, hb.sq, hz, fun e => ?_, fun _ e => ?_, fun _ _ p hp => ?_⟩
  · subst e
    exact q H b (Same.refl H) hb
  · subst e
    exact q H a (Same.refl H) (by rw [List.append_nil]; exact ha)
  · exact q _ p (Same.fresh hp) (Tup.of upd_same)
def rSlW : V → Option Int → Option Int → Hp → VK → Prop := fun x lo hi H Q => ∃ a xs, x = .ref a ∧ Tup H a xs ∧
  ∀ H' p, Same H H' → Tup H' p (cutV xs lo hi) → Q (.ref p) H'
theorem sl_tupW {X : Cx} : SlR X rSlW := by
  intro pins s σ H x v vl vu lo hi sl Q I rx hs pl pu h
  obtain ⟨a, xs, e1, ha, q⟩ := h
  refine sl_tupA pins s σ H x v vl vu lo hi sl Q I rx hs pl pu ⟨a, xs, e1, ha.sq, fun e => ?_, fun _ p hp => q _ p (Same.fresh hp) (Tup.of upd_same)⟩
  refine q H a (Same.refl H) ?_
  have z : cutV xs lo hi = xs := by
    unfold cutV
    rw [e.1, e.2]
    simp
  rw [z]
  exact ha
theorem cut_take (xs : List V) {i : Int} (h0 : 0 ≤ i) (h1 : i ≤ xs.length) : cutV xs none (some i) = xs.take i.toNat := by
  obtain ⟨n, rfl⟩ := Int.eq_ofNat_of_zero_le h0
  unfold cutV
  rw [HT.sIx_none, HT.sIx_nat]
  have : min n xs.length = n := by omega
  rw [this]
  simp
theorem cut_drop (xs : List V) {i : Int} (h0 : 0 ≤ i) (h1 : i ≤ xs.length) : cutV xs (some i) none = xs.drop i.toNat := by
  obtain ⟨n, rfl⟩ := Int.eq_ofNat_of_zero_le h0
  unfold cutV
  rw [HT.sIx_none, HT.sIx_nat]
  have : min n xs.length = n := by omega
  rw [this]
  have e : (xs.drop n).take (xs.length - n) = xs.drop n := List.take_of_length_le (by simp)
  simpa using e
end KX

namespace KX
open PySem PySem.Spec PyProof.Rows L2
/-! own == and != of instances, the other side of any class that is not below -/
theorem slot_objNe : Slot "object" "__ne__" "object.__ne__" :=
  Slot.of (T := "object") (name := "__ne__") (owner := "object") (n := "__ne__") (by rw [typeLookup_type, builtinLookup_eq_fast]; kernel_rfl) (by decide +kernel) (by decide +kernel) (by decide +kernel)
    (.inl (by decide +kernel)) (by rw [isSubtype_type]; kernel_rfl)
section
variable {prog : Program} {w : World} {A : Around} {E : Value → Shared → Prop} {s : Shared} {K : PySem.W.Frag} {x C L f : Addr} {ox : Obj} {od : Option Obj} {b tb : Value}
theorem objNe_K (X : K.In s.heap) (I : PySem.W.InstAt s.heap x ox C od) (hu : A.units < cLine) (hs : PySem.W.findIn K (.ref C) "__eq__" = some (some (.ref f))) (hf : PySem.W.isFn K (.ref f) = true) {Q : Fin → Shared → Prop}
    (hcall : wpAny (model prog w) A (call (.ref f) [.ref x, b]) (fun v s' => ∃ c, v = .bool c ∧ Q (.done (.ret (.bool (!c)))) s') E s) :
    wpAny (model prog w) A (Builtin.«object.__ne__» ⟨[.ref x, b], []⟩) Q E s := by
  unfold Builtin.«object.__ne__»
  repeat (first
    | with_reducible refine wpAny_cRoomFor hu ?_
    | (refine wpAny_bind (m := callSpecialIfBound? (.ref x) (Str.ofString "__eq__") [b])
        (PySem.W.ifBound_K X I hs hf (wpAny_mono hcall (fun r s' hr => by
          obtain ⟨c, rfl, hq⟩ := hr
          repeat (first | exact hq | exact wpAny_pure hq | exact wpAny_truthy_bool hq | (refine wpAny_bind (m := truthy (.bool _)) (wpAny_truthy_bool ?_)) | wp_step)) fun _ _ e => e)))
    | wp_step)
theorem ne_K {Q : Value → Shared → Prop} (hu : A.units + 1 < cLine) (X : K.In s.heap) (I : PySem.W.InstAt s.heap x ox C od) (hb : PySem.W.Looks (model prog w) s.heap (typeOf b) tb) (hn : PySem.W.notFirst K C tb = true)
    (hne : PySem.W.findIn K (.ref C) "__ne__" = some (some (.builtin "object.__ne__"))) (hm : PySem.W.mroIn K C (.type "object") = some true)
    (hs : PySem.W.findIn K (.ref C) "__eq__" = some (some (.ref f))) (hf : PySem.W.isFn K (.ref f) = true)
    (hcall : wpAny (model prog w) A.in1 (call (.ref f) [.ref x, b]) (fun v s' => ∃ c, v = .bool c ∧ Q (.bool (!c)) s') E s) :
    wpAny (model prog w) A (richCompare .NotEq (.ref x) b) Q E s := by
  have sub : PySem.W.Looks (model prog w) s.heap (isInstance (.ref x) (.type "object")) true := I.type.andThen (PySem.W.looks_mroIn X hm)
  have one : wpAny (model prog w) A (tryCompare (.ref x) "__ne__" b) (fun r s' => ∃ v, r = some v ∧ Q v s') E s := by
    unfold tryCompare
    refine wpAny_bind ?_
    simp only [callSpecialIfBound?, bindSpecialIfBound?]
    refine wpAny_holding (wpAny_bind (wpAny_bind (wpAny_bind (I.type.here ((PySem.W.looks_findIn X hne).here ?_)))))
    have fin : ∀ Q2 : Option Value → Shared → Prop, (∀ c s', Q (.bool (!c)) s' → Q2 (some (.bool (!c))) s') → wpAny (model prog w) A (call (.builtin "object.__ne__") ([.ref x] ++ [b]) >>= fun v => pure (some v)) Q2 E s := fun Q2 hQ2 => by
      refine wpAny_bind (wpAny_call (codeAny_call_builtin slot_objNe.plain F.cmpEntry_ne (PySem.W.check_slot F.cmpKind_ne F.cmpSplit_ne sub (F.cmpArgs_ne _ _) ?_)))
      refine objNe_K (A := A.in1) X I (Nat.lt_of_le_of_lt (by simp [Around.in1]) hu) hs hf (wpAny_mono hcall (fun v s' hv => ?_) fun _ _ e => e)
      obtain ⟨c, rfl, hq⟩ := hv
      exact ⟨c, rfl, wpAny_pure (hQ2 c s' hq)⟩
    refine wpAny_bind (wpAny_askSetting (wpAny_ite ?_))
    split
    · refine wpAny_bind ?_
      rw [slot_objNe.bind]
      exact wpAny_pure (wpAny_pure (fin _ fun c s' hq => wpAny_pure ⟨_, rfl, hq⟩))
    · refine wpAny_tryCatch (wpAny_bind ?_)
      rw [slot_objNe.bind]
      exact wpAny_pure (wpAny_pure (fin _ fun c s' hq => wpAny_pure ⟨_, rfl, hq⟩))
  unfold richCompare
  simp only [oneThing_ref]
  refine wpAny_holding (wpAny_bind (wpAny_cRoomFor (Nat.lt_of_succ_lt hu) ?_))
  refine wpAny_bind (I.type.here (wpAny_bind (hb.here ?_)))
  split
  · rename_i q
    have e : PySem.W.subIn K tb (.ref C) = some false := by
      rcases Bool.or_eq_true_iff.mp hn with e | e
      · rw [beq_iff_eq.mp e] at q; simp at q
      · exact beq_iff_eq.mp e
    refine wpAny_bind ((PySem.W.looks_subIn X e).here ?_)
    simp only [Bool.false_eq_true, if_false]
    refine wpAny_bind (wpAny_mono one (fun r s' z => ?_) fun _ _ e => e)
    obtain ⟨v, rfl, hq⟩ := z
    exact wpAny_pure hq
  · refine wpAny_bind (wpAny_pure ?_)
    simp only [Bool.false_eq_true, if_false]
    refine wpAny_bind (wpAny_mono one (fun r s' z => ?_) fun _ _ e => e)
    obtain ⟨v, rfl, hq⟩ := z
    exact wpAny_pure hq
end
/-- x == y, x != y: x an instance of the class at C with an own == that answers a bool -/
def rOwnC (K : PySem.W.Frag) (C : Addr) (sp : Sp) (neg : Bool) : R2 := fun x y H Q => ∃ a dx fs tb, x = .ref a ∧ H a = some (.ins C dx fs) ∧ TyX K H y tb ∧ PySem.W.notFirst K C tb = true ∧
  sp [x, y] H (fun z H' => ∃ c, z = .bl c ∧ Q (.bl (neg != c)) H') E0
/-- what of the class must be known -/
structure OwnC (K : PySem.W.Frag) (C f : Addr) : Prop where
  eq : PySem.W.findIn K (.ref C) "__eq__" = some (some (.ref f))
  fn : PySem.W.isFn K (.ref f) = true
  ne : PySem.W.findIn K (.ref C) "__ne__" = some (some (.builtin "object.__ne__"))
  top : PySem.W.mroIn K C (.type "object") = some true
section
variable {X : Cx} {C f : Addr} {fd : FuncData} {ps : List Str} {sp : Sp} {n : Nat}
theorem own_run (F : FnOk X.prog X.w X.K X.mg X.base CX0 n f fd ps sp) (hb : Binds X.K fd ps []) {A : Around} (hr : Room n A) (hA : A.frames = X.A.frames) {pins : List (Addr × Obj)} {s : Shared} {σ : L2.St} {H : Hp} {a : Addr} {y : V} {u : Value} {Q : VK}
    (I : Inv X pins σ H s) (ry : RelV y u) (h : sp [.ref a, y] H Q E0) : wpAny (model X.prog X.w) A (call (.ref f) [.ref a, u]) (EP X pins σ Q) X.xe s := by
  have e0 : Env0 X.prog X.w X.K X.mg X.base A X.stack s H := by
    have e := I.env0
    exact ⟨by rw [hA]; exact e.frames, e.mod, e.bs, e.bsz, e.funs, e.frf, e.hok, e.bare⟩
  have hl := F.len _ _ _ _ h
  have r2 : Vals [V.ref a, y] [Value.ref a, u] := .cons rfl (.cons ry .nil)
  refine wpAny_call (codeAny_mono (F.run A X.stack s H ⟨[.ref a, u], []⟩ [.ref a, u] [.ref a, y] _ E0 hr e0 (by
    have := hb s [.ref a, u] I.kIn (by simpa using hl)
    simpa using this) r2 h) fun r s' hq => ?_)
  cases r with
  | error e => exact (pass0 pins σ H s e s' I hq)
  | ok fl =>
    cases fl with
    | ret w => exact I.after hq
    | next => exact False.elim hq
    | brk => exact False.elim hq
    | cont => exact False.elim hq
theorem op_ownEq (O : OwnC X.K C f) (F : FnOk X.prog X.w X.K X.mg X.base CX0 n f fd ps sp) (hb : Binds X.K fd ps []) (hr : Room n X.A) : OpR X (compareOp .Eq) (rOwnC X.K C sp false) := by
  intro pins s σ H x y v u Q I rx ry h
  obtain ⟨a, dx, fs, tb, rfl, ha, ty, hn, q⟩ := h
  cases rx
  obtain ⟨mA, J, _⟩ := ins_get I.hok ha
  obtain ⟨od, J, _⟩ := J.look
  obtain ⟨m, hF⟩ := I.fr
  obtain ⟨P, Z, p, _⟩ := kit_of I ry ty
  show wpAny (model X.prog X.w) X.A (richCompare .Eq (.ref a) u) (EP X pins σ Q) X.xe s
  refine PySem.W.cmp_K (op := .Eq) (tb := tb) hr.units0 hF I.ok.mod.kin J (Z.ty _ _ I.kIn p) hn O.eq O.fn ?_
  refine wpAny_mono (own_run F hb hr rfl I ry q) (fun r s' z => ?_) fun _ _ x => x
  obtain ⟨z, H', I', rz, c, e, q'⟩ := z
  subst e
  obtain rfl : r = Value.bool c := rz
  have e : (false != c) = c := by cases c <;> rfl
  rw [e] at q'
  exact ⟨.bl c, H', I', rfl, q'⟩
theorem op_ownNe (O : OwnC X.K C f) (F : FnOk X.prog X.w X.K X.mg X.base CX0 n f fd ps sp) (hb : Binds X.K fd ps []) (hr : Room (n + 1) X.A) : OpR X (compareOp .NotEq) (rOwnC X.K C sp true) := by
  intro pins s σ H x y v u Q I rx ry h
  obtain ⟨a, dx, fs, tb, rfl, ha, ty, hn, q⟩ := h
  cases rx
  obtain ⟨mA, J, _⟩ := ins_get I.hok ha
  obtain ⟨od, J, _⟩ := J.look
  obtain ⟨P, Z, p, _⟩ := kit_of I ry ty
  show wpAny (model X.prog X.w) X.A (richCompare .NotEq (.ref a) u) (EP X pins σ Q) X.xe s
  refine ne_K (by have := hr.units; omega) I.kIn J (Z.ty _ _ I.kIn p) hn O.ne O.top O.eq O.fn ?_
  refine wpAny_mono (own_run F hb hr.in1 rfl I ry q) (fun r s' z => ?_) fun _ _ x => x
  obtain ⟨z, H', I', rz, c, e, q'⟩ := z
  subst e
  obtain rfl : r = Value.bool c := rz
  have e : (true != c) = !c := by cases c <;> rfl
  rw [e] at q'
  exact ⟨c, rfl, .bl (!c), H', I', rfl, q'⟩
end
end KX

/-! enumerate(t) of a tuple -/
namespace PySem
open Sem (wp)
theorem meets_enumerate_new1B {v : Value} {o : Obj} {H : Heap → Prop} (B : Begins v o H) :
    Meets (Builtin.«enumerate.__new__» ⟨[.type "enumerate", v], []⟩) (fun _ R s => H s.heap ∧
      R (.ok (.ret (.ref (s.heap.push o).objs.size))) { s with heap := (s.heap.push o).push { cls := .type "enumerate", data := .fields #[.none, .bool false, .ref s.heap.objs.size, rawInt 0, .none, .none] } }) :=
  .of_wp fun prog w A R s h => by
    obtain ⟨hp, g, d, tk, os⟩ := s; obtain ⟨h1, h⟩ := h
    have hsub := sub_enumerate
    have q1 : ∀ {A' : Around} {E : Value → Shared → Prop} {Q : Value → Shared → Prop}, Q (.ref hp.objs.size) ⟨hp.push o, g, d, tk, os⟩ → wpAny (model prog w) A' (pyIter v) Q E ⟨hp, g, d, tk, os⟩ :=
      fun q => B.iter prog w _ _ ⟨hp, g, d, tk, os⟩ _ h1 q
    wp_walk using q1
    refine wpAny_stack_any fun st => wpAny_pure ?_
    split
    · rename_i c _ _ _ _ _
      cases (c == Value.type "enumerate")
      · wp_walk using q1
        exact ⟨_, rfl, h⟩
      · wp_walk using q1
        exact ⟨_, rfl, h⟩
    · wp_walk using q1
      exact ⟨_, rfl, h⟩
section
variable {prog : Program} {w : World} {A : Around} {E : Value → Shared → Prop} {s : Shared}
/-- enumerate(v): its two new cells -/
theorem enum_begins1 {v : Value} {o : Obj} {H : Heap → Prop} {Q : Value → Shared → Prop} (B : Begins v o H) (h1 : H s.heap)
    (h : ∀ h', IsEnum h' (s.heap.objs.size + 1) s.heap.objs.size 0 .none → h'.get? s.heap.objs.size = some o → h'.objs.size = s.heap.objs.size + 2 →
      (∀ b o, s.heap.get? b = some o → h'.get? b = some o) → Q (.ref (s.heap.objs.size + 1)) { s with heap := h' }) :
    wpAny (model prog w) A (call (.type "enumerate") [v]) Q E s := by
  refine callType_new F.called_enumerate (by decide) (F.typeCall_enumerate_1 _) (F.newCall_enumerate_1 _) (fun obj => F.args_object_init_2 obj _) F.entry_enumerate_new
    (meets_enumerate_new1B B) ⟨h1, ?_⟩
  have hz : (s.heap.push o).objs.size = s.heap.objs.size + 1 := Heap.size_push ..
  show _ ∧ _
  rw [hz]
  have he : IsEnum ((s.heap.push o).push { cls := .type "enumerate", data := .fields #[.none, .bool false, .ref s.heap.objs.size, rawInt 0, .none, .none] }) (s.heap.objs.size + 1) s.heap.objs.size 0 .none := by
    have := Heap.get?_push_size (s.heap.push o) (o := { cls := .type "enumerate", data := .fields #[.none, .bool false, .ref s.heap.objs.size, rawInt 0, .none, .none] }) rfl
    rw [hz] at this; exact this
  refine ⟨⟨_, he, rfl⟩, h _ he (Heap.get?_push_of_some _ (Heap.get?_push_size _ B.free)) (by rw [Heap.size_push, hz]) fun b o x => Heap.get?_push_of_some _ (Heap.get?_push_of_some _ x)⟩
end
end PySem
namespace KX
open PySem PySem.Spec PyProof.Rows L2
/-- the tuple at a as it stands at each turn, each item in a new pair -/
def Itn (K : PySem.W.Frag) (a : Addr) : It :=
  ⟨fun i H => ∃ (xs : List V) (x : V), SqT K H a xs ∧ xs[i]? = some x, fun i H v H' => ∃ T x, v = .ref T ∧ H T = none ∧ H' = upd H T (.tup [.int (i : Nat), x]) ∧ ∀ xs, SqT K H a xs → xs[i]? = some x, fun i H => ∃ xs : List V, SqT K H a xs ∧ xs.length ≤ i⟩
theorem apart_tup {h : Heap} {a it : Addr} {its : Array Value} {i : Nat} (p : h.IsTuple a its) (q : h.IsTupleIter it a i) : a ≠ it := fun z => by
  obtain ⟨o, ho, hc, hd⟩ := q
  obtain ⟨o2, ho2, hc2, _⟩ := p
  rw [z, ho] at ho2
  cases ho2
  rw [hc] at hc2
  simp at hc2
theorem turn_enumT {P : Program} {w : World} {K : PySem.W.Frag} {elts : List Expr} {kk : Nat} {tpos : Pos} (a e it : Addr) :
    Turn P w K (.Tuple elts kk tpos) (Itn K a) [e, it] e (fun i h => (∃ old, IsEnum h e it ((i : Nat) : Int) old) ∧ h.IsTupleIter it a i ∧ e ≠ it) where
  mem := by simp
  obj := fun i h st b hb => by
    obtain ⟨⟨old, he⟩, ⟨o, ho, hc, hd⟩, _⟩ := st
    have e' : b = e ∨ b = it := by simpa using hb
    rcases e' with z | z
    · rw [z]; exact ⟨_, he, fun v q => nomatch q⟩
    · rw [z]; exact ⟨o, ho, fun v q => by rw [hd] at q; cases q⟩
  keep := fun i h h' st k => let ⟨⟨old, he⟩, hi, hne⟩ := st; ⟨⟨old, k e (by simp) _ he⟩, hi.at fun o q => k it (by simp) o q, hne⟩
  item := by
    intro X hP hw hK hc i pins s σ H E I hf st hg
    subst hP hw hK
    obtain ⟨⟨old, he⟩, hit, hne⟩ := st
    obtain ⟨xs, x, hq, hx⟩ := hg
    obtain ⟨its, rv, p, hz⟩ := I.tuple hq
    have p : s.heap.IsTuple a its.toArray := p
    have hai := apart_tup p hit
    obtain ⟨u, hu, ru⟩ := rv.get hx
    have hel : e < s.heap.objs.size := Heap.lt_size he
    have hil : it < s.heap.objs.size := by obtain ⟨_, q, _⟩ := hit; exact Heap.lt_size q
    have hea : e ≠ a := fun z => by
      obtain ⟨o2, ho2, hc2, _⟩ := p
      have he' : s.heap.get? e = some _ := he
      rw [z, ho2] at he'
      cases he'
      simp at hc2
    refine wpAny_pyNext_enum_itemD (Draws.tuple (A := X.A.in1) (I.ok.hd hc) it a hai its.toArray) he ⟨hit, p⟩ (by
      obtain ⟨hl, _⟩ := List.getElem?_eq_some_iff.mp hu
      simpa using hl) hne (by simp [hne, hea]) fun x' h' tk hx' ho st' hT hsz hk => ?_
    have hxe : x' = u := by
      have e1 : its[i]? = some x' := by simpa using hx'
      rw [hu] at e1
      exact (Option.some.inj e1).symm
    subst hxe
    refine ⟨_, rfl, wpAny_letOwnedTupleGo_enum (s := { s with heap := h', toks := tk + 1 }) ho fun h'' he' sb => ?_⟩
    have hT2 : h''.get? s.heap.objs.size = some { cls := .type "tuple", data := .seq #[.int i tk, x'] } := (sb.2 _ (Nat.ne_of_gt hel)).trans hT
    have new : ObjOk X.prog X.w (upd H s.heap.objs.size (.tup [.int (i : Nat), x])) h'' s.heap.objs.size (.tup [.int (i : Nat), x]) :=
      ⟨by show 2 ≤ sizeLine; decide, [.int i tk, x'], .cons ⟨_, rfl⟩ (.cons ru .nil), ⟨_, hT2, rfl, _, rfl⟩⟩
    have I1 : Inv X pins σ (upd H s.heap.objs.size (.tup [.int (i : Nat), x])) { s with heap := h'', toks := tk + 1 } :=
      I.turnedNew (ch := [e, it]) (fun b ob hb q => (sb.2 b (fun z => hb (by simp [z]))).trans (hk b ob (fun z => hb (by simp [z])) (fun z => hb (by simp [z])) q)) hf (Nat.le_refl _) new
    refine ⟨.ref s.heap.objs.size, _, I1, rfl, ⟨_, x, rfl, I.hok.fresh (Nat.le_refl _), rfl, fun ys hy => by rw [I.tuple_inj hy hq]; exact hx⟩, ⟨⟨x', ?_⟩, st'.1.at fun o q => (sb.2 it (Ne.symm hne)).trans q, hne⟩, fun b hb => ?_⟩
    · have e1 : ((i + 1 : Nat) : Int) = (i : Int) + 1 := by omega
      rw [e1]; exact he'
    · have hb' : b < s.heap.objs.size := by
        have e' : b = e ∨ b = it := by simpa using hb
        rcases e' with z | z
        · rw [z]; exact hel
        · rw [z]; exact hil
      rw [upd_ne (Nat.ne_of_lt hb')]
      exact (hf b hb).1
  done := by
    intro X hP hw hK hc i pins s σ H E I hf st hg
    subst hP hw hK
    obtain ⟨⟨old, he⟩, hit, hne⟩ := st
    obtain ⟨xs, hq, hx⟩ := hg
    obtain ⟨its, rv, p, hz⟩ := I.tuple hq
    have p : s.heap.IsTuple a its.toArray := p
    obtain ⟨f0, f1, f2, f3, f4, f5⟩ := hf it (by simp)
    have hl := rv.length
    have hT : s.TypeIs (.ref e) "enumerate" := ⟨_, he, rfl⟩
    unfold pyNext
    refine wpAny_bind (wpAny_attempt (wpAny_callSpecial?_slot (name := Str.ofString "__next__") hT F.slot_enumerate_next
      (wpAny_call_entry F.slot_enumerate_next hT F.entry_enumerate_next ?_ (F.args_enumerate_next_1 _))))
    show wpAny _ _ (field (.ref e) 2 >>= _) _ _ _
    refine wpAny_bind (wpAny_field he rfl (x := .ref it) rfl ?_)
    refine wpAny_bind (wpAny_nextOf_tuple_end (I.ok.hd hc) hit p (by simp; omega) fun h' x he' hx' => ?_)
    obtain ⟨o, ho, hc⟩ := hx'
    refine wpAny_bind (wpAny_isInstance (T := "StopIteration") (b := true) ⟨o, ho, hc⟩ isSubtype_stop ?_)
    exact wpAny_pure ⟨rfl, I.turned (t' := s.toks) (fun b o hb q => he' b o hb q) f0 f1 f3 f4 f5⟩
  self := fun A i s Q E st h => let ⟨⟨_, he⟩, _⟩ := st; wpAny_pyIter_enum he h
def iEnumT (K : PySem.W.Frag) (ta : TA) : TI := fun σ H R => ta σ H fun vs H1 => ∃ a xs, vs = [.ref a] ∧ SqT K H1 a xs ∧ R (Itn K a) H1
theorem pi_enumT {X : Cx} {e : Expr} {ta : TA} {p pos tpos : Pos} {elts : List Expr} {kk : Nat} (hg : Gl X "enumerate") (hm : X.mg "enumerate" = none) (ha : PA X [e] ta) (hs : starEach [e] X.env = [(false, eval e X.env)] := by rfl) :
    PI X (.Tuple elts kk tpos) (.Call (.Name "enumerate" p) [e] [] pos) (iEnumT X.K ta) := by
  refine ⟨fun pins s σ H R I h => ?_⟩
  refine Call_ (ld_blt I hg hm boot_enumerate (PyProof.Rows.callWith_type1 (thn (ha.run pos pins s σ H _ I h) fun us s1 ⟨vs, H1, I1, r1, q1⟩ => ?_) hs rfl))
  obtain ⟨a, xs, ex, hq, q⟩ := q1
  subst ex
  cases r1 with
  | cons r rr =>
    cases rr
    cases r
    obtain ⟨its, rv, p', hz⟩ := I1.tuple hq
    have p' : s1.heap.IsTuple a its.toArray := p'
    refine enum_begins1 (begins_tuple a its.toArray) p' fun h' he hit hsz hk => wpAny_pyIter_enum he ?_
    have I2 : Inv X pins σ H1 { s1 with heap := h' } := I1.kept (t' := s1.toks) hk
    refine ⟨s1.heap.objs.size + 1, [s1.heap.objs.size + 1, s1.heap.objs.size], _, _, H1, rfl, I2, turn_enumT a (s1.heap.objs.size + 1) s1.heap.objs.size, ⟨⟨.none, he⟩, ⟨_, hit, rfl, rfl⟩, Nat.succ_ne_self _⟩, fun b hb => ?_, q⟩
    have e' : b = s1.heap.objs.size + 1 ∨ b = s1.heap.objs.size := by simpa using hb
    have hle : s1.heap.objs.size ≤ b := by
      rcases e' with z | z
      · rw [z]; exact Nat.le_add_right _ _
      · rw [z]; exact Nat.le_refl _
    exact I1.fpOk hle (I1.hok.fresh hle)
theorem walk_enumT {K : PySem.W.Frag} {a : Addr} {xs : List V} : Walk (Itn K a) xs.length (fun H => SqT K H a xs) (YPair (fun i => some (.int (i : Nat))) (fun i => xs[i]?)) := by
  refine ⟨fun i _ hi q => ⟨xs, xs[i], q, by simp [hi]⟩, fun _ q => ⟨xs, q, Nat.le_refl _⟩, fun i H v H' _ q y => ?_⟩
  obtain ⟨T, x, h1, h2, h3, h4⟩ := y
  exact ⟨T, .int (i : Nat), x, h1, h2, h3, rfl, h4 xs q⟩
end KX

namespace KX
open PySem PySem.Spec PyProof.Rows L2
/-! readings, one step at a time -/
/-- a new object: any address that was free, the heap behind it -/
def NewO (H : Hp) (o : HO) (Q : VK) : Prop := ∀ p H', H p = none → Same H H' → H' p = some o → Q (.ref p) H'
theorem new_of {H : Hp} {o : HO} {Q : VK} (h : NewO H o Q) : ∀ p, H p = none → Q (.ref p) (upd H p o) := fun p hp => h p _ hp (Same.fresh hp) upd_same
section
variable {σ : L2.St} {H : Hp} {D : Ends} {Q : VK} {QT : Bool → Hp → Prop} {QA : List V → Hp → Prop} {QS : L2.St → Hp → Prop}
theorem rd_seq {t u : TS} (h : t { D with nx := u D } σ H) : tSeq t u D σ H := h
theorem rd_nx {a b c d} (h : a σ H) : ({ nx := a, rt := b, bk := c, ct := d } : Ends).nx σ H := h
theorem rd_rt {a b c d} {v : V} (h : b v H) : ({ nx := a, rt := b, bk := c, ct := d } : Ends).rt v H := h
theorem rd_ct {a b c d} (h : d σ H) : ({ nx := a, rt := b, bk := c, ct := d } : Ends).ct σ H := h
theorem rd_bk {a b c d} (h : c σ H) : ({ nx := a, rt := b, bk := c, ct := d } : Ends).bk σ H := h
theorem rd_next (h : D.nx σ H) : tNext D σ H := h
theorem rd_cont (h : D.ct σ H) : tCont D σ H := h
theorem rd_brk (h : D.bk σ H) : tBreak D σ H := h
theorem rd_drop {te : TE} (h : te σ H fun _ H1 => D.nx σ H1) : tDrop te D σ H := h
theorem rd_ret {te : TE} (h : te σ H D.rt) : tRet te D σ H := h
theorem rd_retN (h : D.rt .non H) : tRetN D σ H := h
theorem rd_ifs {c : TT} {t u : TS} (h : c σ H fun b H1 => if b = true then t D σ H1 else u D σ H1) : tIfS c t u D σ H := h
theorem rd_asg {te : TE} {g : TG} (h : te σ H fun x H1 => g x σ H1 D.nx) : tAsg te g D σ H := h
theorem rd_par {i j : Nat} {ta : TA} (h : ta σ H fun vs H1 => ∃ v w, vs = [v, w] ∧ D.nx ((σ.set i (some v)).set j (some w)) H1) : tPar i j ta D σ H := h
theorem rd_par2 {f : V → V → Prop} {v w : V} (h : f v w) : ∃ x y, [v, w] = [x, y] ∧ f x y := ⟨v, w, rfl, h⟩
theorem rd_par3 {i j l : Nat} {ta : TA} (h : ta σ H fun vs H1 => ∃ u v w, vs = [u, v, w] ∧ D.nx (((σ.set i (some u)).set j (some v)).set l (some w)) H1) : tPar3 i j l ta D σ H := h
theorem rd_par33 {f : V → V → V → Prop} {u v w : V} (h : f u v w) : ∃ z x y, [u, v, w] = [z, x, y] ∧ f z x y := ⟨u, v, w, rfl, h⟩
theorem rd_name {i : Nat} {v : V} (h : QS (σ.set i (some v)) H) : gName i v σ H QS := h
theorem rd_sub {to ti : TE} {t : TSet} {v : V} (h : to σ H fun o H1 => ti σ H1 fun i H2 => t o i v H2 fun H3 => QS σ H3) : gSub to ti t v σ H QS := h
theorem rd_gcons {t : TG} {u : TGs} {v : V} {vs : List V} (h : t v σ H fun σ' H' => u vs σ' H' QS) : gCons t u (v :: vs) σ H QS := ⟨v, vs, rfl, h⟩
theorem rd_gnil (h : QS σ H) : gNil [] σ H QS := ⟨rfl, h⟩
theorem rd_gtup {K : PySem.W.Frag} {n : Nat} {t : TGs} {a : Addr} {xs : List V} (ha : Tup H a xs) (hn : xs.length = n) (h : t xs σ H QS) : gTup K n t (.ref a) σ H QS := ⟨a, xs, rfl, ha.sq, hn, h⟩
theorem rd_glst {K : PySem.W.Frag} {n : Nat} {t : TGs} {a : Addr} {xs : List V} (ha : H a = some (.lst xs)) (hn : xs.length = n) (h : t xs σ H QS) : gLst K n t (.ref a) σ H QS := ⟨a, xs, rfl, SqL.of ha, hn, h⟩
theorem rd_var {i : Nat} {v : V} (e : σ[i]? = some (some v)) (h : Q v H) : tVar i σ H Q := ⟨v, e, h⟩
theorem rd_c {v : V} (h : Q v H) : tC v σ H Q := h
theorem rd_op {r : R2} {ta tb : TE} (h : ta σ H fun x H1 => tb σ H1 fun y H2 => r x y H2 Q) : tOp r ta tb σ H Q := h
theorem rd_un {r : V → Hp → VK → Prop} {ta : TE} (h : ta σ H fun x H1 => r x H1 Q) : tUn r ta σ H Q := h
theorem rd_tB {t : TE} (h : t σ H fun x H1 => ∃ c, x = .bl c ∧ QT c H1) : tB t σ H QT := h
theorem rd_test {t : TE} (h : t σ H fun x H1 => ∃ c, x = .bl c ∧ QT c H1) : tTest t σ H QT := h
theorem rd_bl {f : Bool → Prop} {b : Bool} (h : f b) : ∃ c, V.bl b = .bl c ∧ f c := ⟨b, rfl, h⟩
theorem rd_and {t u : TT} (h : t σ H fun c H1 => if c = true then u σ H1 QT else QT false H1) : tAnd t u σ H QT := h
theorem rd_or {t u : TT} (h : t σ H fun c H1 => if c = true then QT true H1 else u σ H1 QT) : tOr t u σ H QT := h
theorem rd_not {t : TT} (h : t σ H fun c H1 => QT (!c) H1) : tNot t σ H QT := h
theorem rd_yes (h : QT true H) : tYes σ H QT := h
theorem rd_andV {ta tb : TE} (h : ta σ H fun x H1 => ∃ c, x = .bl c ∧ if c = true then tb σ H1 Q else Q (.bl false) H1) : tAndV ta tb σ H Q := h
theorem rd_orV {ta tb : TE} (h : ta σ H fun x H1 => ∃ c, x = .bl c ∧ if c = true then Q (.bl true) H1 else tb σ H1 Q) : tOrV ta tb σ H Q := h
theorem rd_notV {ta : TE} (h : ta σ H fun x H1 => ∃ c, x = .bl c ∧ Q (.bl (!c)) H1) : tNotV ta σ H Q := h
theorem rd_if {t : TT} {ta tb : TE} (h : t σ H fun c H1 => if c = true then ta σ H1 Q else tb σ H1 Q) : tIf t ta tb σ H Q := h
theorem rd_isN {ta : TE} (h : ta σ H fun x H1 => Q (.bl (decide (x = .non))) H1) : tIsN ta σ H Q := h
theorem rd_iT {A B : Prop} (h : A) : if true = true then A else B := by rw [if_pos rfl]; exact h
theorem rd_iF {A B : Prop} (h : B) : if false = true then A else B := by rw [if_neg (by decide)]; exact h
theorem rd_nil (h : QA [] H) : tNil σ H QA := h
theorem rd_cons {ta : TE} {tr : TA} (h : ta σ H fun x H1 => tr σ H1 fun xs H2 => QA (x :: xs) H2) : tCons ta tr σ H QA := h
/-- behind a display's items -/
def TupTail (Q : VK) (xs : List V) (H1 : Hp) : Prop := xs.length ≤ sizeLine ∧ ∀ p, H1 p = none → Q (.ref p) (upd H1 p (.tup xs))
def LstTail (Q : VK) (xs : List V) (H1 : Hp) : Prop := xs.length ≤ sizeLine ∧ ∀ p, H1 p = none → Q (.ref p) (upd H1 p (.lst xs))
theorem rd_tup {t : TA} (h : t σ H (TupTail Q)) : tTup t σ H Q := h
theorem rd_lst {t : TA} (h : t σ H (LstTail Q)) : tLst t σ H Q := h
theorem rd_tupT {xs : List V} (hl : xs.length ≤ 1000 := by decide) (h : NewO H (.tup xs) Q) : TupTail Q xs H := ⟨Nat.le_trans hl (by decide), new_of h⟩
theorem rd_lstT {xs : List V} (hl : xs.length ≤ 1000 := by decide) (h : NewO H (.lst xs) Q) : LstTail Q xs H := ⟨Nat.le_trans hl (by decide), new_of h⟩
theorem rd_call {sp : Sp} {dvs : List V} {E : XK} {t : TA} (h : t σ H fun vs H1 => sp (vs ++ dvs) H1 Q E) : tCall sp dvs E t σ H Q := h
theorem rd_cb {r : List V → Hp → VK → Prop} {t : TA} (h : t σ H fun vs H1 => r vs H1 Q) : tCB r t σ H Q := h
theorem rd_bm {K : PySem.W.Frag} {T : String} {r : V → List V → Hp → VK → Prop} {to : TE} {t : TA} (h : to σ H fun x H1 => tyV K T x H1 ∧ t σ H1 fun xs H2 => r x xs H2 Q) : tBM K T r to t σ H Q := h
theorem rd_bm0 {K : PySem.W.Frag} {T : String} {r : V → List V → Hp → VK → Prop} {to : TE} (h : to σ H fun x H1 => tyV K T x H1 ∧ r x [] H1 Q) : tBM0 K T r to σ H Q := h
theorem rd_sl {r : V → Option Int → Option Int → Hp → VK → Prop} {te : TE} {tl th : TO} (h : te σ H fun x H1 => tl σ H1 fun l H2 => th σ H2 fun u H3 => r x l u H3 Q) : tSl r te tl th σ H Q := h
theorem rd_noP {Q : Option Int → Hp → Prop} (h : Q none H) : tNoPart σ H Q := h
theorem rd_part {t : TE} {Q : Option Int → Hp → Prop} (h : t σ H fun x H1 => ∃ i, x = .int i ∧ Q (some i) H1) : tPart t σ H Q := h
theorem rd_int {f : Int → Prop} {i : Int} (h : f i) : ∃ j, V.int i = .int j ∧ f j := ⟨i, rfl, h⟩
theorem rd_int1 {f : Int → Prop} {i : Int} (h : f i) : ∃ j, [V.int i] = [.int j] ∧ f j := ⟨i, rfl, h⟩
theorem rd_fld {K : PySem.W.Frag} {ta : TE} {f : Str} (h : ta σ H fun x H1 => ∃ a C dx fs v, x = .ref a ∧ H1 a = some (.ins C dx fs) ∧ Cls K C ∧ NoAttr K C f ∧ fs.lookup f = some v ∧ Q v H1) : tFld K ta f σ H Q := h
theorem rd_ilist {K : PySem.W.Frag} {tl : TE} {R : It → Hp → Prop} (h : tl σ H fun x H1 => ∃ a, x = .ref a ∧ (∃ xs, SqL K H1 a xs) ∧ R (Itl K a) H1) : iList K tl σ H R := h
theorem rd_itup {K : PySem.W.Frag} {tl : TE} {R : It → Hp → Prop} (h : tl σ H fun x H1 => ∃ a, x = .ref a ∧ (∃ xs, SqT K H1 a xs) ∧ R (Itt K a) H1) : iTup K tl σ H R := h
theorem rd_rng1 {ta : TA} {R : It → Hp → Prop} (h : ta σ H fun vs H1 => ∃ j : Int, vs = [.int j] ∧ -(2 ^ 62) ≤ j ∧ j < 2 ^ 62 ∧ R (Itr 0 j.toNat) H1) : iRng1 ta σ H R := h
theorem rd_enum {K : PySem.W.Frag} {ta : TA} {R : It → Hp → Prop} (h : ta σ H fun vs H1 => ∃ a xs, vs = [.ref a] ∧ SqL K H1 a xs ∧ R (Ite K a) H1) : iEnum K ta σ H R := h
theorem rd_enumT {K : PySem.W.Frag} {ta : TA} {R : It → Hp → Prop} (h : ta σ H fun vs H1 => ∃ a xs, vs = [.ref a] ∧ SqT K H1 a xs ∧ R (Itn K a) H1) : iEnumT K ta σ H R := h
theorem rd_rng1v {j : Int} {n : Nat} {R : It → Prop} (hj : j = n) (hn : n < 1000000) (h : R (Itr 0 n)) : ∃ k : Int, [V.int j] = [.int k] ∧ -(2 ^ 62) ≤ k ∧ k < 2 ^ 62 ∧ R (Itr 0 k.toNat) := by
  subst hj
  exact ⟨_, rfl, by omega, by omega, h⟩
/-! operators by values -/
theorem rd_rI0 {g : Int → Int → V} {i j : Int} (h : Q (g i j) H) : rI0 g (.int i) (.int j) H Q := ⟨i, j, rfl, rfl, h⟩
theorem rd_rI {C : Int → Int → Prop} {g : Int → Int → V} {i j : Int} (hc : C i j) (h : Q (g i j) H) : rI C g (.int i) (.int j) H Q := ⟨i, j, rfl, rfl, hc, h⟩
theorem rd_rU {g : Int → V} {i : Int} (h : Q (g i) H) : rU g (.int i) H Q := ⟨i, rfl, h⟩
theorem rd_eqI {i j : Int} (h : Q (.bl (decide (i = j))) H) : rEq (.int i) (.int j) H Q := by
  refine ⟨rfl, ?_⟩
  have e : decide (V.int i = V.int j) = decide (i = j) := by by_cases z : i = j <;> simp [z]
  rw [e]; exact h
theorem rd_neI {i j : Int} (h : Q (.bl (!decide (i = j))) H) : rNe (.int i) (.int j) H Q := by
  refine ⟨rfl, ?_⟩
  have e : decide (V.int i = V.int j) = decide (i = j) := by by_cases z : i = j <;> simp [z]
  rw [e]; exact h
theorem rd_ixL {K : PySem.W.Frag} {p : Addr} {xs : List V} {i : Int} {v : V} (ha : H p = some (.lst xs)) (e : atI xs i = some v) (h : Q v H) : rIxL K (.ref p) (.int i) H Q := ⟨p, xs, i, v, rfl, rfl, SqL.of ha, e, h⟩
theorem rd_ixT {K : PySem.W.Frag} {p : Addr} {xs : List V} {i : Int} {v : V} (ha : Tup H p xs) (e : atI xs i = some v) (h : Q v H) : rIxT K (.ref p) (.int i) H Q := ⟨p, xs, i, v, rfl, rfl, ha.sq, e, h⟩
theorem rd_cat {a b : Addr} {xs ys : List V} (ha : H a = some (.lst xs)) (hb : H b = some (.lst ys)) (hl : xs.length + ys.length ≤ 1000000) (h : NewO H (.lst (xs ++ ys)) Q) : rCat (.ref a) (.ref b) H Q :=
  ⟨a, b, xs, ys, rfl, rfl, ha, hb, Nat.le_trans hl (by decide), new_of h⟩
theorem rd_slL {K : PySem.W.Frag} {a : Addr} {xs : List V} {lo hi : Option Int} (ha : H a = some (.lst xs)) (h : NewO H (.lst (cutV xs lo hi)) Q) : rSlL K (.ref a) lo hi H Q := ⟨a, xs, rfl, SqL.of ha, new_of h⟩
theorem rd_app {l : Addr} {xs : List V} {y : V} (ha : H l = some (.lst xs)) (hl : xs.length < 1000000) (h : Q .non (upd H l (.lst (xs ++ [y])))) : rAppend (.ref l) [y] H Q :=
  ⟨l, xs, y, rfl, rfl, ha, Nat.lt_of_lt_of_le hl (by decide), h⟩
theorem rd_lenL {X : Cx} {p : Addr} {ys : List V} (ha : H p = some (.lst ys)) (h : Q (.int ys.length) H) : ∃ p' ys', [V.ref p] = [.ref p'] ∧ (SqL X.K H p' ys' ∨ SqT X.K H p' ys') ∧ Q (.int ys'.length) H := ⟨p, ys, rfl, .inl (SqL.of ha), h⟩
theorem rd_then {ta : TE} {k : V → Hp → VK → Prop} (h : ta σ H fun x H1 => k x H1 Q) : tThen ta k σ H Q := h
theorem rd_raise {C : Addr} {W : WX} {ta : TA} (h : ta σ H fun vs H1 => ∃ v, vs = [v] ∧ ∀ d, H1 d = none → W (.ref C) (some d) σ (upd H1 d (.xd [(("at" : Str), v)]))) : tRaiseErr C W ta D σ H := h
theorem rd_one {f : V → Prop} {v : V} (h : f v) : ∃ w, [v] = [w] ∧ f w := ⟨v, rfl, h⟩
theorem rd_sfld {K : PySem.W.Frag} {ta tv : TE} {f : Str} (h : tv σ H fun y H1 => ta σ H1 fun x H2 => ∃ a C dx fs, x = .ref a ∧ H2 a = some (.ins C dx fs) ∧ Cls K C ∧ NoAttr K C f ∧ fs.length < 1000 ∧ D.nx σ (upd H2 a (.ins C dx (putF f y fs)))) : sFld K ta tv f D σ H := h
end
end KX

namespace KX
open PySem PySem.Spec PyProof.Rows L2 L2H LamX
/-! the law's own call under CG, with some tables of code objects -/
section
variable {P : Program} {w : World} {K : PySem.W.Frag} {mg mb : Str → Option Value} {CX : CXT} {k : Nat} {fa a : Addr} {ts : List (Addr × Addr)}
  {fd : FuncData} {x : Str} {sp : Sp} {s₁ : Shared} {vs : List Value}
/-- only the script and the tables are tracked -/
structure OnlyS (H : Hp) (a : Addr) (ts : List (Addr × Addr)) : Prop where
  tab : ∀ p ∈ ts, H p.2 = some (.tbl #[])
  who : ∀ b, H b ≠ none → b = a ∨ ∃ p ∈ ts, b = p.2
  frz : ∀ u, H a = some u → ∃ o xs, u = .frz o (.lst xs)
theorem OnlyS.off {H : Hp} {b : Addr} (O : OnlyS H a ts) (h1 : b ≠ a) (h2 : ∀ p ∈ ts, b ≠ p.2) : H b = none :=
  Classical.byContradiction fun z => (O.who b z).elim h1 fun ⟨p, hp, e⟩ => h2 p hp e
theorem lawS_core {H : Hp}
    (KI : K.In s₁.heap) (hns : s₁.heap.Ns mainGlobals mg) (hb : s₁.heap.Ns builtinsNs mb)
    (hbb : ∀ x : Str, x ≠ "__name__" → mb x = bootBuiltins x) (hlim : s₁.heap.NoLimit) (hg : s₁.gens = #[])
    (ht : ∀ p ∈ ts, s₁.heap.get? p.2 = some { cls := .none, data := .fields #[] }) (nt : ∀ p ∈ ts, K.lookup p.2 = none) (C : ∀ p ∈ ts, PySem.W.CodeHd s₁.heap p.1 p.2)
    (hbm : ∃ (bm : Addr) (ob : Obj), mg "__builtins__" = some (.ref bm) ∧ bm ≠ builtinsNs ∧ s₁.heap.get? bm = some ob ∧ ob.cls = .type "module" ∧ ob.dict = some builtinsNs ∧ ob.data = .plain)
    (ha : s₁.heap.get? a = some { cls := .type "list", data := .seq vs.toArray }) (hr : Room k callerA)
    (F : ∀ base : Heap, K.In base → base.Ns mainGlobals mg → (∀ p ∈ ts, TabB base mg p.1 p.2) → FnR P w K mg base CX (CG k) fa fd [x] sp)
    (hbind : ∀ (s : Shared) (u : Value), BindsTo s fd ⟨[u], []⟩ [(x, u)])
    (hCX : ∀ H e s', CX [] H s₁ (fun _ _ _ => False) e s' → False)
    (O : OnlyS H a ts) (hS : sp [.ref a] H (fun v _ => v = .bl true) fun _ _ _ => False) (hok : HOk P w H s₁.heap)
    (hK : H a ≠ none → K.lookup a = none) :
    codeAny (model P w) callerA (.call (.ref fa) ⟨[.ref a], []⟩)
      (fun r s' => r = .ok (.ret (.bool true)) ∧ OldK s₁.heap s'.heap ∧ s'.os = s₁.os ∧ AllBare s'.gens) s₁ := by
  have sees : ∀ {b : Addr} {o : Obj}, s₁.heap.get? b = some o → (∀ vs n, o.data ≠ .seq vs n) → o.data ≠ .fields #[] →
      (hidT s₁.heap H).get? b = some o := fun {b o} e h1 h2 => hidT_get e (O.off (fun z => by
        subst z
        rw [ha] at e
        cases e
        exact h1 _ _ rfl) fun p hp z => by
        subst z
        rw [ht p hp] at e
        cases e
        exact h2 rfl)
  have nsH : ∀ {b : Addr} {m : Str → Option Value}, s₁.heap.Ns b m → (hidT s₁.heap H).Ns b m := fun {b m} n => by
    obtain ⟨o, es, ep, e, d, r⟩ := n
    exact ⟨o, es, ep, sees e (fun vs n z => by rw [d] at z; cases z) (fun z => by rw [d] at z; cases z), d, r⟩
  have KB : K.In (hidT s₁.heap H) := fun b o e => hidT_get (KI b o e) (Classical.byContradiction fun z => by
    rcases O.who b z with h | ⟨p, hp, h⟩
    · subst h
      rw [hK z] at e
      cases e
    · subst h
      rw [nt p hp] at e
      cases e)
  have MB : Mod K mg (hidT s₁.heap H) := by
    obtain ⟨mc, h1, h2⟩ := hlim
    exact ⟨KB, nsH hns, ⟨mb, nsH hb, hbb⟩, ⟨mc, nsH h1, h2⟩⟩
  have TB : ∀ p ∈ ts, TabB (hidT s₁.heap H) mg p.1 p.2 := fun p hp => by
    refine ⟨?_, ?_, fun z => ?_⟩
    · obtain ⟨o, us, file, tf, flags, tg, inF, text, tt, e1, r1, r2, r3, rest⟩ := C p hp
      refine ⟨o, us, file, tf, flags, tg, inF, text, tt, sees e1 (fun vs n z => ?_) (fun z => ?_), r1, r2, r3, rest⟩
      · rw [r2] at z
        cases z
      · rw [r2] at z
        cases z
        simp at r3
    · obtain ⟨bm, ob, b1, b2, b3, b4, b5, b6⟩ := hbm
      refine ⟨bm, ob, b1, b2, fun q => ?_, fun q => ?_, sees b3 (fun vs n z => by rw [b6] at z; cases z) (fun z => by rw [b6] at z; cases z), b4, b5, b6⟩
      · obtain ⟨o, es, ep, e, hd, _⟩ := hns
        rw [q, e] at b3
        cases b3
        rw [hd] at b6
        cases b6
      · rw [q, ht p hp] at b3
        cases b3
        cases b6
    · obtain ⟨o, es, ep, e, hd, _⟩ := hns
      rw [z, ht p hp] at e
      cases e
      cases hd
  have e0 : Env0 P w K mg (hidT s₁.heap H) callerA [] s₁ H :=
    ⟨rfl, MB, fun b o e => of_hidT e, Nat.le_of_eq (hidT_size _ _), trivial,
      fun b hb => absurd (show b ∈ ([] : List Addr) from hb) (by simp), hok, .of_eq hg⟩
  refine codeAny_mono ((F _ KB (nsH hns) TB).does callerA [] s₁ H ⟨[.ref a], []⟩ [.ref a] [.ref a] _ _ ⟨hr, rfl⟩ e0
    (hbind s₁ (.ref a)) (.cons rfl .nil) hS) fun r s' h => ?_
  match r, h with
  | .error e, h => exact (hCX H e s' h).elim
  | .ok (.ret u), h =>
    obtain ⟨v, H', os, bare, un, hok', r', q⟩ := h
    have q' : v = .bl true := q
    subst q'
    obtain rfl : u = Value.bool true := r'
    have hm : ∀ p ∈ ts, ∃ more : Array Value, s'.heap.get? p.2 = some { cls := .none, data := .fields more } := fun p hp => by
      obtain ⟨more, z⟩ := un.tbls p.2 #[] (O.tab p hp)
      exact ⟨_, hok' p.2 _ z⟩
    have other : ∀ b o, (∀ p ∈ ts, b ≠ p.2) → s₁.heap.get? b = some o → s'.heap.get? b = some o := fun b o nb e => by
      cases q : H b with
      | none => exact un.keep b o e q (by intro z; exact absurd (show b ∈ ([] : List Addr) from z) (by simp)) (by simp)
      | some u =>
        have eb : b = a := (O.who b (by rw [q]; exact fun z => nomatch z)).resolve_right fun ⟨p, hp, z⟩ => nb p hp z
        subst eb
        obtain ⟨ob, xs, rfl⟩ := O.frz _ q
        have e1 := (hok b _ q).1
        have e2 := (hok' b _ (un.frzs b ob _ q)).1
        rw [e] at e1
        cases e1
        exact e2
    refine ⟨rfl, ⟨fun b o e => ?_, fun b o e => ?_⟩, os, bare⟩
    · by_cases h : ∃ p ∈ ts, b = p.2
      · obtain ⟨p, hp, rfl⟩ := h
        obtain ⟨more, hm⟩ := hm p hp
        rw [ht p hp] at e
        cases e
        exact .inr (.inl ⟨((C p hp).tab (ht p hp)).isCodeTable, rfl, #[], more, rfl, by rw [Array.empty_append]; exact hm⟩)
      · exact .inl (other b o (fun p hp z => h ⟨p, hp, z⟩) e)
    · by_cases h : ∃ p ∈ ts, b = p.2
      · obtain ⟨p, hp, rfl⟩ := h
        obtain ⟨more, hm⟩ := hm p hp
        exact ⟨_, hm⟩
      · exact ⟨o, other b o (fun p hp z => h ⟨p, hp, z⟩) e⟩
theorem law_callS {ns : List Int}
    (KI : K.In s₁.heap) (hns : s₁.heap.Ns mainGlobals mg) (hb : s₁.heap.Ns builtinsNs mb)
    (hbb : ∀ x : Str, x ≠ "__name__" → mb x = bootBuiltins x) (hlim : s₁.heap.NoLimit) (hg : s₁.gens = #[])
    (ht : ∀ p ∈ ts, s₁.heap.get? p.2 = some { cls := .none, data := .fields #[] }) (nt : ∀ p ∈ ts, K.lookup p.2 = none) (C : ∀ p ∈ ts, PySem.W.CodeHd s₁.heap p.1 p.2)
    (hbm : ∃ (bm : Addr) (ob : Obj), mg "__builtins__" = some (.ref bm) ∧ bm ≠ builtinsNs ∧ s₁.heap.get? bm = some ob ∧ ob.cls = .type "module" ∧ ob.dict = some builtinsNs ∧ ob.data = .plain)
    (ha : s₁.heap.get? a = some { cls := .type "list", data := .seq vs.toArray }) (hi : IntsAre vs ns) (hl : ns.length ≤ sizeLine) (hr : Room k callerA)
    (F : ∀ base : Heap, K.In base → base.Ns mainGlobals mg → (∀ p ∈ ts, TabB base mg p.1 p.2) → FnR P w K mg base CX (CG k) fa fd [x] sp)
    (hbind : ∀ (s : Shared) (u : Value), BindsTo s fd ⟨[u], []⟩ [(x, u)])
    (hsp : ∀ H : Hp, (∀ p ∈ ts, H p.2 = some (.tbl #[])) → SqL K H a (ns.map V.int) → sp [.ref a] H (fun v _ => v = .bl true) fun _ _ _ => False)
    (hCX : ∀ H e s', CX [] H s₁ (fun _ _ _ => False) e s' → False) :
    codeAny (model P w) callerA (.call (.ref fa) ⟨[.ref a], []⟩)
      (fun r s' => r = .ok (.ret (.bool true)) ∧ OldK s₁.heap s'.heap ∧ s'.os = s₁.os ∧ AllBare s'.gens) s₁ := by
  have rv := vals_ints hi
  have nat : ∀ p ∈ ts, a ≠ p.2 := fun p hp z => by
    rw [z, ht p hp] at ha
    cases ha
  cases hk : K.lookup a with
  | some o =>
    have e := KI a o hk
    rw [ha] at e
    cases e
    let H : Hp := fun b => if b ∈ ts.map (·.2) then some (.tbl #[]) else none
    have atT : ∀ p ∈ ts, H p.2 = some (.tbl #[]) := fun p hp => if_pos (List.mem_map.mpr ⟨p, hp, rfl⟩)
    have off : ∀ {b}, b ∉ ts.map (·.2) → H b = none := fun h => if_neg h
    have on : ∀ {b}, b ∈ ts.map (·.2) → ∃ p ∈ ts, b = p.2 := fun h => by
      obtain ⟨p, hp, e⟩ := List.mem_map.mp h
      exact ⟨p, hp, e.symm⟩
    have noff : a ∉ ts.map (·.2) := fun h => by
      obtain ⟨p, hp, e⟩ := on h
      exact nat p hp e
    have S : SqL K H a (ns.map V.int) :=
      Or.inr ⟨_, vs.toArray, _, hk, rfl, rfl, rfl, by rw [List.size_toArray, hi.length]; exact hl, by simpa using rv⟩
    have O : OnlyS H a ts := ⟨atT, fun b z => Or.inr (on (Classical.byContradiction fun h => z (off h))), fun u z => by rw [off noff] at z; cases z⟩
    refine lawS_core KI hns hb hbb hlim hg ht nt C hbm ha hr F hbind hCX O (hsp _ atT S) (fun b u z => ?_) fun z => absurd (off noff) z
    by_cases h : b ∈ ts.map (·.2)
    · obtain ⟨p, hp, rfl⟩ := on h
      rw [atT p hp] at z
      cases z
      exact ht p hp
    · rw [off h] at z
      cases z
  | none =>
    let H : Hp := fun b => if b = a then some (.frz { cls := .type "list", data := .seq vs.toArray } (.lst (ns.map V.int))) else if b ∈ ts.map (·.2) then some (.tbl #[]) else none
    have on : ∀ {b}, b ∈ ts.map (·.2) → ∃ p ∈ ts, b = p.2 := fun h => by
      obtain ⟨p, hp, e⟩ := List.mem_map.mp h
      exact ⟨p, hp, e.symm⟩
    have atA : H a = some (.frz { cls := .type "list", data := .seq vs.toArray } (.lst (ns.map V.int))) := if_pos rfl
    have atT : ∀ p ∈ ts, H p.2 = some (.tbl #[]) := fun p hp => (if_neg (Ne.symm (nat p hp))).trans (if_pos (List.mem_map.mpr ⟨p, hp, rfl⟩))
    have off : ∀ {b}, b ≠ a → b ∉ ts.map (·.2) → H b = none := fun h h' => (if_neg h).trans (if_neg h')
    have S : SqL K H a (ns.map V.int) := Or.inl (Or.inr ⟨_, atA⟩)
    have O : OnlyS H a ts := ⟨atT, fun b z => by
      by_cases h : b = a
      · exact Or.inl h
      · exact Or.inr (on (Classical.byContradiction fun h' => z (off h h'))), fun u z => by rw [atA] at z; cases z; exact ⟨_, _, rfl⟩⟩
    refine lawS_core KI hns hb hbb hlim hg ht nt C hbm ha hr F hbind hCX O (hsp _ atT S) (fun b u z => ?_) fun _ => hk
    by_cases h : b = a
    · subst h
      rw [atA] at z
      cases z
      exact ⟨ha, by rw [List.length_map]; exact hl, vs, _, rv, ha⟩
    · by_cases h' : b ∈ ts.map (·.2)
      · obtain ⟨p, hp, rfl⟩ := on h'
        rw [atT p hp] at z
        cases z
        exact ht p hp
      · rw [off h h'] at z
        cases z
end
/-- what k_head leaves, by the law's promise under CG; ts: the tables of the code objects -/
theorem walk_ofS {l : PySem.W.OpenLaw} {n k : Nat} {q : Program} {loose : List Str} {XP : (Str → Option Value) → Heap → Prop}
    {YP : World → Heap → Prop} {d : DefRec} {K : Params → PySem.W.Frag} {CX : CXT} {x : Str} {ts : List (Addr × Addr)} {sp : PySem.W.Frag → Sp}
    (hn : l.most = some n) (hn2 : n ≤ sizeLine) (hdf : d.params.defaults = []) (hr : Room k callerA)
    (hY : ∀ (w : World) (h : Heap), YP w h → (K w.params).In h)
    (hT : ∀ (w : World) (h : Heap), YP w h → ∀ p ∈ ts, h.get? p.2 = some { cls := .none, data := .fields #[] })
    (hcd : ∀ w : World, ∀ p ∈ ts, PySem.W.codeHdIn (K w.params) p.1 p.2 = true) (nt : ∀ w : World, ∀ p ∈ ts, (K w.params).lookup p.2 = none)
    (F : ∀ (w : World) (mg : Str → Option Value) (fa : Addr) (h : Heap), (K w.params).In h → h.Ns mainGlobals mg →
      mg d.name = some (.ref fa) → ∃ fd : FuncData, (∀ (s : Shared) (u : Value), BindsTo s fd ⟨[u], []⟩ [(x, u)]) ∧
        ∀ base : Heap, (K w.params).In base → base.Ns mainGlobals mg → (∀ p ∈ ts, TabB base mg p.1 p.2) →
          FnR l.prog w (K w.params) mg base CX (CG k) fa fd [x] (sp (K w.params)))
    (hsp : ∀ (K : PySem.W.Frag) (H : Hp) (a : Addr) (ns : List Int), ns.length ≤ n → (∀ p ∈ ts, H p.2 = some (.tbl #[])) → SqL K H a (ns.map V.int) →
      sp K [.ref a] H (fun v _ => v = .bl true) fun _ _ _ => False)
    (hCX : ∀ (H : Hp) (s : Shared) (e : Value) (s' : Shared), CX [] H s (fun _ _ _ => False) e s' → False) :
    PySem.W.WalkO q loose XP YP l.row.toRowW d [] (fun f vs => PySem.call f vs) := by
  refine Att.attach_call hn hdf fun w s₀ s₁ mg mb fa o pm cd doc a vs ns G Y ho hd hcd' hmg hobj hints hlen hg => ?_
  have KI := hY w _ Y
  obtain ⟨fd, hb, hF⟩ := F w mg fa _ KI G.T.g hmg
  exact law_callS KI G.T.g G.T.b G.T.builtins G.T.nolimit hg (hT w _ Y) (nt w) (fun p hp => PySem.W.codeHd_of_K KI (hcd w p hp)) G.T.bmain hobj hints (Nat.le_trans hlen hn2) hr hF hb
    (fun H hH hS => hsp (K w.params) H a ns hlen hH hS) fun H e s' => hCX H s₁ e s'
end KX

namespace KX
open PySem PySem.Spec PyProof.Rows L2
/-! the rules that name the written part, with the written part handed in -/
section
variable {X : Cx} {K : PySem.W.Frag}
theorem cr_sortedK (hK : X.K = K := by rfl) : CallR X (.builtin "sorted") (rSorted K) := by subst hK; exact cr_sorted
theorem cr_sortTK (hK : X.K = K := by rfl) : CallR X (.builtin "sorted") (rSortT K) := by subst hK; exact cr_sortT
theorem cr_sortedPOK (hK : X.K = K := by rfl) : CallR X (.builtin "sorted") (rSortedPO K) := by subst hK; exact cr_sortedPO
theorem cr_maxK (hc : X.calm = true) (hK : X.K = K := by rfl) : CallR X (.builtin "max") (rMax K) := by subst hK; exact cr_max hc
theorem cr_minK (hc : X.calm = true) (hK : X.K = K := by rfl) : CallR X (.builtin "min") (rMin K) := by subst hK; exact cr_min hc
theorem cr_sumK (hc : X.calm = true) (hK : X.K = K := by rfl) : CallR X (.builtin "sum") (rSum K) := by subst hK; exact cr_sum hc
theorem cr_allK (hc : X.calm = true) (hK : X.K = K := by rfl) : CallR X (.builtin "all") (rAll K) := by subst hK; exact cr_all hc
theorem cr_anyK (hc : X.calm = true) (hK : X.K = K := by rfl) : CallR X (.builtin "any") (rAny K) := by subst hK; exact cr_any hc
theorem cr_reprK (hg : X.A.guards = some []) (hu : X.A.units + 66 < cLine) (hK : X.K = K := by rfl) : CallR X (.builtin "repr") (rRepr K) := by subst hK; exact cr_repr hg hu
def rLenS (K : PySem.W.Frag) : List V → Hp → VK → Prop := fun xs H Q => ∃ p ys, xs = [.ref p] ∧ (SqL K H p ys ∨ SqT K H p ys) ∧ Q (.int ys.length) H
theorem cr_lenK (hK : X.K = K := by rfl) : CallR X (.builtin "len") (rLenS K) := by subst hK; exact call_len_seq
def rListS (K : PySem.W.Frag) : List V → Hp → VK → Prop := fun xs H Q => ∃ p ys, xs = [.ref p] ∧ (SqL K H p ys ∨ SqT K H p ys) ∧ ∀ l, H l = none → Q (.ref l) (upd H l (.lst ys))
theorem cr_listK (hK : X.K = K := by rfl) : CallR X (.type "list") (rListS K) := by subst hK; exact call_list_of
theorem cr_isiK (hK : X.K = K := by rfl) : CallR X (.builtin "isinstance") (rIsi K) := by subst hK; exact call_isi
theorem cr_isiTK (hK : X.K = K := by rfl) : CallR X (.builtin "isinstance") (rIsiT K) := by subst hK; exact call_isiT
theorem ix_listK (hK : X.K = K := by rfl) : IxR X (rIxL K) := by subst hK; exact ix_list
theorem ix_tupK (hK : X.K = K := by rfl) : IxR X (rIxT K) := by subst hK; exact ix_tup
theorem sl_listK (hK : X.K = K := by rfl) : SlR X (rSlL K) := by subst hK; exact sl_list
theorem op_inK (hK : X.K = K := by rfl) : OpR X (compareOp .In) (rIn K false) := by subst hK; exact op_in_seq
theorem op_notInK (hK : X.K = K := by rfl) : OpR X (compareOp .NotIn) (rIn K true) := by subst hK; exact op_notIn_seq
theorem op_eqDK (hu : X.A.units + 64 < cLine) (hK : X.K = K := by rfl) : OpR X (compareOp .Eq) (rEqD K) := by subst hK; exact op_eqD hu
theorem op_neDK (hu : X.A.units + 64 < cLine) (hK : X.K = K := by rfl) : OpR X (compareOp .NotEq) (rNeD K) := by subst hK; exact op_neD hu
theorem op_inDK (hu : X.A.units + 65 < cLine) (hK : X.K = K := by rfl) : OpR X (compareOp .In) (rInD K) := by subst hK; exact op_inD hu
theorem op_notInDK (hu : X.A.units + 65 < cLine) (hK : X.K = K := by rfl) : OpR X (compareOp .NotIn) (rNotInD K) := by subst hK; exact op_notInD hu
section
variable {tg l e a : Expr} {tl ta te to : TE} {pos p tpos cpos apos : Pos} {f : Str} {t : TA} {es : List Expr}
theorem pi_listK (hl : PE X l tl) (hK : X.K = K := by rfl) : PI X tg l (iList K tl) := by subst hK; exact pi_list hl
theorem pi_tupK (hl : PE X l tl) (hK : X.K = K := by rfl) : PI X tg l (iTup K tl) := by subst hK; exact pi_tup hl
theorem pi_enumK {elts : List Expr} {kk : Nat} (hg : Gl X "enumerate") (hm : X.mg "enumerate" = none) (ha : PA X [e] t) (hs : starEach [e] X.env = [(false, eval e X.env)] := by rfl) (hK : X.K = K := by rfl) :
    PI X (.Tuple elts kk tpos) (.Call (.Name "enumerate" p) [e] [] pos) (iEnum K t) := by subst hK; exact pi_enum hg hm ha hs
theorem pi_enumTK {elts : List Expr} {kk : Nat} (hg : Gl X "enumerate") (hm : X.mg "enumerate" = none) (ha : PA X [e] t) (hs : starEach [e] X.env = [(false, eval e X.env)] := by rfl) (hK : X.K = K := by rfl) :
    PI X (.Tuple elts kk tpos) (.Call (.Name "enumerate" p) [e] [] pos) (iEnumT K t) := by subst hK; exact pi_enumT hg hm ha hs
theorem pe_fldK (he : PE X e ta) (hb : attributeBase e f X.env (eval e X.env) = eval e X.env := by rfl) (hK : X.K = K := by rfl) : PE X (.Attribute e f pos) (tFld K ta f) := by subst hK; exact pe_fld he hb
theorem ps_fldK {o value : Expr} {pos' : Pos} {tv : TE} (ha : PE X o ta) (hv : PE X value tv) (hs : swapsWith value (some (.Attribute o f pos')) pos.line X.env = pure false := by rfl) (hK : X.K = K := by rfl) :
    PS X (.Assign [.Attribute o f pos'] value pos) (sFld K ta tv f) := by subst hK; exact ps_fld ha hv hs
theorem pe_tupleK (hg : Gl X "tuple") (hm : X.mg "tuple" = none) (ha : PE X a ta) (na : starEach [a] X.env = (false, eval a X.env) :: starEach [] X.env := by rfl) (hK : X.K = K := by rfl) :
    PE X (.Call (.Name "tuple" p) [a] [] pos) (tThen ta (kTup K)) := by subst hK; exact pe_tupleOf hg hm ha na
theorem pg_tupK {k n : Nat} {t : TGs} (hc : X.calm = true) (h : PGs X es t) (hn : (assignEach es X.env).length = n := by rfl) (hst : (assignEach es X.env).findIdx? (·.1) = none := by rfl) (hK : X.K = K := by rfl) :
    PG X (.Tuple es k pos) (gTup K n t) := by subst hK; exact pg_tup hc h hn hst
theorem pg_lstK {k n : Nat} {t : TGs} (hc : X.calm = true) (h : PGs X es t) (hn : (assignEach es X.env).length = n := by rfl) (hst : (assignEach es X.env).findIdx? (·.1) = none := by rfl) (hK : X.K = K := by rfl) :
    PG X (.Tuple es k pos) (gLst K n t) := by subst hK; exact pg_lst hc h hn hst
end
end
/-! their readings -/
section
variable {σ : L2.St} {H : Hp} {Q : VK} {K : PySem.W.Frag}
theorem rd_lenB {p : Addr} {ys : List V} (ha : SqL K H p ys ∨ SqT K H p ys) (h : Q (.int ys.length) H) : rLenS K [.ref p] H Q := ⟨p, ys, rfl, ha, h⟩
theorem rd_len {p : Addr} {ys : List V} (ha : H p = some (.lst ys)) (h : Q (.int ys.length) H) : rLenS K [.ref p] H Q := ⟨p, ys, rfl, .inl (SqL.of ha), h⟩
theorem rd_lenTup {p : Addr} {ys : List V} (ha : Tup H p ys) (h : Q (.int ys.length) H) : rLenS K [.ref p] H Q := ⟨p, ys, rfl, .inr ha.sq, h⟩
theorem rd_list {p : Addr} {ys : List V} (ha : SqL K H p ys ∨ SqT K H p ys) (h : NewO H (.lst ys) Q) : rListS K [.ref p] H Q := ⟨p, ys, rfl, ha, new_of h⟩
theorem rd_sorted {p : Addr} {ns : List Int} (ha : H p = some (.lst (ns.map V.int))) (hl : ns.length < 64) (h : ∀ ns' : List Int, ns'.Perm ns → ns'.Pairwise (· ≤ ·) → NewO H (.lst (ns'.map V.int)) Q) : rSorted K [.ref p] H Q :=
  ⟨p, ns, rfl, SqL.of ha, hl, fun ns' q hp hs hq => new_of (h ns' hp hs) q hq⟩
theorem rd_tupL {p : Addr} {xs : List V} (ha : H p = some (.lst xs)) (h : NewO H (.tup xs) Q) : kTup K (.ref p) H Q := .inl ⟨p, xs, rfl, SqL.of ha, new_of h⟩
theorem rd_tupS {p : Addr} {xs : List V} (ha : Tup H p xs) (h : Q (.ref p) H) : kTup K (.ref p) H Q := .inr ⟨p, xs, rfl, ha.sq, h⟩
theorem rd_max {p : Addr} {ns : List Int} (ha : H p = some (.lst (ns.map V.int))) (hn : 0 < ns.length) (h : ∀ m, m ∈ ns → (∀ y ∈ ns, y ≤ m) → Q (.int m) H) : rMax K [.ref p] H Q := ⟨p, ns, rfl, SqL.of ha, hn, h⟩
theorem rd_repr {x : V} {d : PyData} (hd : Dp K H x d) (h1 : d.showable = true) (h2 : d.hasDict = false) (h3 : d.depth ≤ 64) (h4 : d.shown.length ≤ sizeLine) (h : Q (.str d.shown) H) : rRepr K [x] H Q := ⟨x, d, rfl, hd, h1, h2, h3, h4, h⟩
theorem rd_eqS {a b : Str} (h : Q (.bl (decide (a = b))) H) : rEq (.str a) (.str b) H Q := by
  refine ⟨rfl, ?_⟩
  have e : decide (V.str a = V.str b) = decide (a = b) := by by_cases z : a = b <;> simp [z]
  rw [e]; exact h
theorem rd_neS {a b : Str} (h : Q (.bl (!decide (a = b))) H) : rNe (.str a) (.str b) H Q := by
  refine ⟨rfl, ?_⟩
  have e : decide (V.str a = V.str b) = decide (a = b) := by by_cases z : a = b <;> simp [z]
  rw [e]; exact h
theorem rd_ty {p : Addr} {xs : List V} {R : Prop} (ha : H p = some (.lst xs)) (h : R) : tyV K "list" (.ref p) H ∧ R := ⟨.inl ⟨rfl, _, SqL.of ha⟩, h⟩
end
section
variable {X : Cx} {K : PySem.W.Frag} {o e : Expr} {es : List Expr} {to : TE} {t : TA} {apos cpos : Pos} {name : Str} {id : String} {r : V → List V → Hp → VK → Prop}
theorem pe_bmK (slot : Slot "list" name id) (hty : typeOf (.builtin id) = pure (.type "method_descriptor")) (hm : MtR X id r) (ho : PE X o to) (ha : PA X (e :: es) t)
    (hbase : attributeBase o name X.env (eval o X.env) = eval o X.env := by rfl)
    (hfew : ((backTo cpos (starEach (e :: es) X.env)).all (fun x => !x.1) && (backToKw cpos (keywordEach [] X.env)).all (fun x => x.1.isSome)
      && decide ((e :: es).length + ([] : List Keyword).length + (if ([] : List Keyword).isEmpty then 0 else 1) < 30)) = true := by rfl)
    (hline : (apos.endLine == cpos.line) = true := by rfl) (hs : starEach (e :: es) X.env = (false, eval e X.env) :: starEach es X.env := by rfl) (hplain : (backTo cpos (starEach es X.env)).any (·.1) = false := by rfl) (hK : X.K = K := by rfl) :
    PE X (.Call (.Attribute o name apos) (e :: es) [] cpos) (tBM K "list" r to t) := by subst hK; exact pe_bm PySem.F.plainAttrs_list slot hty hm ho ha hbase hfew hline hs hplain
theorem pe_bm0K (slot : Slot "list" name id) (hty : typeOf (.builtin id) = pure (.type "method_descriptor")) (hm : MtR X id r) (ho : PE X o to)
    (hbase : attributeBase o name X.env (eval o X.env) = eval o X.env := by rfl) (hline : (apos.endLine == cpos.line) = true := by rfl) (hK : X.K = K := by rfl) : PE X (.Call (.Attribute o name apos) [] [] cpos) (tBM0 K "list" r to) := by
  subst hK; exact pe_bm0 PySem.F.plainAttrs_list slot hty hm ho hbase hline
end
/-- what isinstance asks of an own class -/
structure IsCls (K : PySem.W.Frag) (C : Addr) : Prop where
  cl : Cls K C
  ha : PySem.W.findIn K (.ref C) "__class__" = some (some (.builtin "object.__class__"))
  hn : PySem.W.specialIn K (.builtin "object.__class__") "__get__" = some (some (.builtin "getset_descriptor.__get__"))
  ht : PySem.W.takesIn K (.builtin "object.__class__") = some true
  hm : PySem.W.mroIn K C (.type "object") = some true
  kit : PySem.W.kitOne K (.ref C) (.ref C) = some true
theorem IsCls.ty {K : PySem.W.Frag} {C : Addr} (h : IsCls K C) {H : Hp} {a dx : Addr} {fs : List (Str × V)} (e : H a = some (.ins C dx fs)) : TyX K H (.ref a) (.ref C) :=
  .base (.ins e h.cl h.ha h.hn h.ht h.hm)
/-! data: ints and pairs of ints -/
theorem dA_ints (K : PySem.W.Frag) (H : Hp) : ∀ ns : List Int, DpAll K H (ns.map V.int) (ns.map PyData.int)
  | [] => .nil
  | n :: ns => .cons (.int n) (dA_ints K H ns)
theorem dA_lay : ∀ ns : List Int, PyData.canLayAll0 (ns.map PyData.int) = true
  | [] => rfl
  | n :: ns => by
    show (PyData.canLay0 (.int n) && PyData.canLayAll0 (ns.map PyData.int)) = true
    rw [dA_lay ns]; rfl
theorem dA_dep : ∀ ns : List Int, PyData.depthAll (ns.map PyData.int) ≤ 1
  | [] => by decide
  | n :: ns => by
    have h := dA_dep ns
    show max (PyData.depth (.int n)) (PyData.depthAll (ns.map PyData.int)) ≤ 1
    have h1 : PyData.depth (.int n) = 0 := rfl
    rw [h1]; omega
theorem dA_sh (ns : List Int) : SeqAt.shaped (.tuple (ns.map PyData.int)) = true := by
  have h := dA_dep ns
  have h1 : PyData.depth (.tuple (ns.map PyData.int)) = PyData.depthAll (ns.map PyData.int) + 1 := rfl
  unfold SeqAt.shaped
  have h2 : PyData.canLay0 (.tuple (ns.map PyData.int)) = PyData.canLayAll0 (ns.map PyData.int) := rfl
  rw [h2, dA_lay, h1, Bool.true_and]
  exact decide_eq_true (by omega)
theorem dA_eqv : ∀ ns ms : List Int, PyData.eqvAll (ns.map PyData.int) (ms.map PyData.int) = decide (ns = ms)
  | [], [] => rfl
  | [], m :: ms => by simp [PyData.eqvAll]
  | n :: ns, [] => by simp [PyData.eqvAll]
  | n :: ns, m :: ms => by
    show ((n == m) && PyData.eqvAll (ns.map PyData.int) (ms.map PyData.int)) = _
    rw [dA_eqv ns ms]
    by_cases h1 : n = m
    · by_cases h2 : ns = ms <;> simp [h1, h2]
    · simp [h1]
def dP (e : Int × Int) : PyData := .tuple [.int e.1, .int e.2]
theorem dP_lay : ∀ L : List (Int × Int), PyData.canLayAll0 (L.map dP) = true
  | [] => rfl
  | n :: ns => by
    show (PyData.canLay0 (dP n) && PyData.canLayAll0 (ns.map dP)) = true
    rw [dP_lay ns]; rfl
theorem dP_dep : ∀ L : List (Int × Int), PyData.depthAll (L.map dP) ≤ 2
  | [] => by decide
  | n :: ns => by
    have h := dP_dep ns
    show max (PyData.depth (dP n)) (PyData.depthAll (ns.map dP)) ≤ 2
    have h1 : PyData.depth (dP n) = 1 := rfl
    rw [h1]; omega
theorem dP_shT (L : List (Int × Int)) : SeqAt.shaped (.tuple (L.map dP)) = true := by
  have h := dP_dep L
  have h1 : PyData.depth (.tuple (L.map dP)) = PyData.depthAll (L.map dP) + 1 := rfl
  unfold SeqAt.shaped
  have h2 : PyData.canLay0 (.tuple (L.map dP)) = PyData.canLayAll0 (L.map dP) := rfl
  rw [h2, dP_lay, h1, Bool.true_and]
  exact decide_eq_true (by omega)
theorem dP_shL (L : List (Int × Int)) : SeqAt.shaped (.list (L.map dP)) = true := by
  have h := dP_dep L
  have h1 : PyData.depth (.list (L.map dP)) = PyData.depthAll (L.map dP) + 1 := rfl
  unfold SeqAt.shaped
  have h2 : PyData.canLay0 (.list (L.map dP)) = PyData.canLayAll0 (L.map dP) := rfl
  rw [h2, dP_lay, h1, Bool.true_and]
  exact decide_eq_true (by omega)
theorem dP_sh1 (e : Int × Int) : SeqAt.shaped (dP e) = true := rfl
theorem dP_eqv1 (e f : Int × Int) : PyData.eqv (dP e) (dP f) = decide (e = f) := by
  obtain ⟨a, b⟩ := e
  obtain ⟨c, d⟩ := f
  show ((a == c) && ((b == d) && true)) = _
  by_cases h1 : a = c
  · by_cases h2 : b = d <;> simp [h1, h2]
  · simp [h1]
theorem dP_eqv : ∀ L M : List (Int × Int), PyData.eqvAll (L.map dP) (M.map dP) = decide (L = M)
  | [], [] => rfl
  | [], m :: ms => by simp [PyData.eqvAll]
  | n :: ns, [] => by simp [PyData.eqvAll]
  | n :: ns, m :: ms => by
    show (PyData.eqv (dP n) (dP m) && PyData.eqvAll (ns.map dP) (ms.map dP)) = _
    rw [dP_eqv ns ms, dP_eqv1]
    by_cases h1 : n = m
    · by_cases h2 : ns = ms <;> simp [h1, h2]
    · simp [h1]
theorem dP_any (e : Int × Int) (L : List (Int × Int)) : ((L.map dP).any fun z => PyData.eqv z (dP e)) = decide (e ∈ L) := by
  induction L with
  | nil => rfl
  | cons x L ih =>
    rw [List.map_cons, List.any_cons, ih, dP_eqv1]
    by_cases h : x = e
    · simp [h]
    · have h' : ¬ e = x := fun z => h z.symm
      simp [h, h']
theorem Room.u65 {k : Nat} {A : Around} (r : Room k A) : A.units + 65 < cLine := by have := r.un; omega
theorem Room.u66 {k : Nat} {A : Around} (r : Room k A) : A.units + 66 < cLine := by have := r.un; omega
end KX

namespace KX
open PySem PySem.Spec PyProof.Rows L2
/-! comprehensions whose values are told ahead -/
theorem same_put {H H' : Hp} {D : Addr} {o : HO} (s : Same H H') (n : H D = none) : Same H (L2.upd H' D o) := fun c u h => by
  rw [upd_ne (fun z => by rw [z, n] at h; cases h)]
  exact s c u h
section
variable {K : PySem.W.Frag} {g : TG} {te : TE} {vs : List Nat} {σ : L2.St} {H1 : Hp} {D : Addr} {Qd : Hp → Prop}
/-- at the end of a turn: the value told, the heap extended -/
theorem lcv_put {zs : List V} (hz : zs.length < 1000000) {i : Nat} {z : V} {H' H4 : Hp} (hD : H1 D = none) (hz' : zs[i]? = some z) (S : Same H1 H') (hH : H' D = some (.lst (zs.take i))) (S4 : Same H' H4) :
    ∃ acc, H4 D = some (.lst acc) ∧ acc.length < sizeLine ∧ (Same H1 (upd H4 D (.lst (acc ++ [z]))) ∧ upd H4 D (.lst (acc ++ [z])) D = some (.lst (zs.take (i + 1)))) := by
  refine ⟨_, S4 _ _ hH, ?_, same_put (fun c u h => S4 _ _ (S _ _ h)) hD, ?_⟩
  · rw [List.length_take]
    exact Nat.lt_of_le_of_lt (Nat.min_le_right _ _) (Nat.lt_of_lt_of_le hz (by decide))
  · rw [upd_same, List.take_succ, hz']; rfl
theorem yes_eq {R : L2.St → VK} {A : L2.St → Prop} {N : Hp → Prop} : (fun (σ2 : L2.St) (H2 : Hp) => A σ2 ∧ tYes σ2 H2 fun b H3 => if b = true then te σ2 H3 (R σ2) else N H3) = fun σ2 H2 => A σ2 ∧ te σ2 H2 (R σ2) := by
  funext σ2 H2
  show (A σ2 ∧ if true = true then te σ2 H2 (R σ2) else N H2) = _
  rw [if_pos rfl]
/-- over any walk that leaves the heap as it is -/
theorem lcv_wk {J : It} {n : Nat} {G : Hp → Prop} {f : Nat → V} (zs : List V) (w : Walk J n G fun i H v H' => H' = H ∧ v = f i) (lz : zs.length = n) (hz : zs.length < 1000000) (hD : H1 D = none) (keep : ∀ H', Same H1 H' → G H')
    (hs : ∀ (i : Nat) (z : V) (H' : Hp), i < n → zs[i]? = some z → Same H1 H' → ∀ R : VK, (∀ H4, Same H' H4 → R z H4) → g (f i) (wipe σ vs) H' fun σ2 H2 => wipe σ2 vs = wipe σ vs ∧ te σ2 H2 R)
    (hd : ∀ H', Same H1 H' → H' D = some (.lst zs) → Qd H') :
    ∃ W : Nat → Nat → Hp → Prop, (∃ m, W 0 m (upd H1 D (.lst []))) ∧ ∀ i m H, W i m H →
      (J.stop i H ∧ Qd H) ∨ (J.go i H ∧ ∃ Nx : Hp → Prop, (∀ H', Nx H' → ∃ m', m' < m ∧ W (i + 1) m' H') ∧ ∀ x H', J.yld i H x H' → g x (wipe σ vs) H' fun σ2 H2 => wipe σ2 vs = wipe σ vs ∧ tYes σ2 H2 fun b H3 =>
        if b = true then te σ2 H3 fun y H4 => ∃ acc, H4 D = some (.lst acc) ∧ acc.length < sizeLine ∧ Nx (upd H4 D (.lst (acc ++ [y]))) else Nx H3) := by
  refine lc_it w (fun i H' => Same H1 H' ∧ H' D = some (.lst (zs.take i))) ⟨Same.fresh hD, upd_same⟩ (fun i H' _ p => keep H' p.1) (fun i x H' H'' hi p y => ?_) (fun H' p => ?_)
  · obtain ⟨S, hH⟩ := p
    obtain ⟨rfl, rfl⟩ := y
    have hz' : zs[i]? = some zs[i] := List.getElem?_eq_getElem (by omega)
    rw [yes_eq (R := fun _ y H4 => ∃ acc, H4 D = some (.lst acc) ∧ acc.length < sizeLine ∧ (Same H1 (upd H4 D (.lst (acc ++ [y]))) ∧ upd H4 D (.lst (acc ++ [y])) D = some (.lst (zs.take (i + 1)))))]
    exact hs i _ _ hi hz' S _ fun H4 S4 => lcv_put hz hD hz' S hH S4
  · obtain ⟨S, hH⟩ := p
    rw [← lz, List.take_length] at hH
    exact hd H' S hH
end
section
variable {K : PySem.W.Frag} {g : TG} {te : TE} {vs : List Nat} {σ : L2.St} {H1 : Hp} {D : Addr} {Qd : Hp → Prop}
theorem lcv_list {a : Addr} {xs : List V} (zs : List V) (ha : H1 a = some (.lst xs)) (lz : zs.length = xs.length) (hz : zs.length < 1000000) (hD : H1 D = none)
    (hs : ∀ (i : Nat) (x z : V) (H' : Hp), xs[i]? = some x → zs[i]? = some z → Same H1 H' → ∀ R : VK, (∀ H4, Same H' H4 → R z H4) → g x (wipe σ vs) H' fun σ2 H2 => wipe σ2 vs = wipe σ vs ∧ te σ2 H2 R)
    (hd : ∀ H', Same H1 H' → H' D = some (.lst zs) → Qd H') :
    ∃ W : Nat → Nat → Hp → Prop, (∃ m, W 0 m (upd H1 D (.lst []))) ∧ ∀ i m H, W i m H →
      ((Itl K a).stop i H ∧ Qd H) ∨ ((Itl K a).go i H ∧ ∃ Nx : Hp → Prop, (∀ H', Nx H' → ∃ m', m' < m ∧ W (i + 1) m' H') ∧ ∀ x H', (Itl K a).yld i H x H' → g x (wipe σ vs) H' fun σ2 H2 => wipe σ2 vs = wipe σ vs ∧ tYes σ2 H2 fun b H3 =>
        if b = true then te σ2 H3 fun y H4 => ∃ acc, H4 D = some (.lst acc) ∧ acc.length < sizeLine ∧ Nx (upd H4 D (.lst (acc ++ [y]))) else Nx H3) := by
  refine lcv_wk (n := xs.length) (G := fun H => SqL K H a xs) (f := fun i => xs.getD i .non) zs ((walk_list).mono (fun _ h => h) fun i H x H' hi _ y => ⟨y.1, ?_⟩) lz hz hD (fun H' S => SqL.of (S _ _ ha)) (fun i z H' hi hz' S => ?_) hd
  · rw [List.getD_eq_getElem?_getD, y.2]; rfl
  · have e : xs[i]? = some (xs.getD i .non) := by rw [List.getD_eq_getElem?_getD, List.getElem?_eq_getElem hi]; rfl
    exact hs i _ z H' e hz' S
theorem lcv_tup {a : Addr} {xs : List V} (zs : List V) (ha : Tup H1 a xs) (lz : zs.length = xs.length) (hz : zs.length < 1000000) (hD : H1 D = none)
    (hs : ∀ (i : Nat) (x z : V) (H' : Hp), xs[i]? = some x → zs[i]? = some z → Same H1 H' → ∀ R : VK, (∀ H4, Same H' H4 → R z H4) → g x (wipe σ vs) H' fun σ2 H2 => wipe σ2 vs = wipe σ vs ∧ te σ2 H2 R)
    (hd : ∀ H', Same H1 H' → H' D = some (.lst zs) → Qd H') :
    ∃ W : Nat → Nat → Hp → Prop, (∃ m, W 0 m (upd H1 D (.lst []))) ∧ ∀ i m H, W i m H →
      ((Itt K a).stop i H ∧ Qd H) ∨ ((Itt K a).go i H ∧ ∃ Nx : Hp → Prop, (∀ H', Nx H' → ∃ m', m' < m ∧ W (i + 1) m' H') ∧ ∀ x H', (Itt K a).yld i H x H' → g x (wipe σ vs) H' fun σ2 H2 => wipe σ2 vs = wipe σ vs ∧ tYes σ2 H2 fun b H3 =>
        if b = true then te σ2 H3 fun y H4 => ∃ acc, H4 D = some (.lst acc) ∧ acc.length < sizeLine ∧ Nx (upd H4 D (.lst (acc ++ [y]))) else Nx H3) := by
  refine lcv_wk (n := xs.length) (G := fun H => SqT K H a xs) (f := fun i => xs.getD i .non) zs ((walk_tup).mono (fun _ h => h) fun i H x H' hi _ y => ⟨y.1, ?_⟩) lz hz hD (fun H' S => (ha.same S).sq) (fun i z H' hi hz' S => ?_) hd
  · rw [List.getD_eq_getElem?_getD, y.2]; rfl
  · have e : xs[i]? = some (xs.getD i .non) := by rw [List.getD_eq_getElem?_getD, List.getElem?_eq_getElem hi]; rfl
    exact hs i _ z H' e hz' S
theorem walk_rng {lo : Int} {n : Nat} : Walk (Itr lo n) n (fun _ => True) (fun i H v H' => H' = H ∧ v = .int (lo + i)) :=
  ⟨fun i _ hi _ => hi, fun _ _ => Nat.le_refl _, fun _ _ _ _ _ _ y => ⟨y.1, y.2⟩⟩
theorem lcv_rng {lo : Int} {n : Nat} (zs : List V) (lz : zs.length = n) (hz : zs.length < 1000000) (hD : H1 D = none)
    (hs : ∀ (i : Nat) (z : V) (H' : Hp), i < n → zs[i]? = some z → Same H1 H' → ∀ R : VK, (∀ H4, Same H' H4 → R z H4) → g (.int (lo + i)) (wipe σ vs) H' fun σ2 H2 => wipe σ2 vs = wipe σ vs ∧ te σ2 H2 R)
    (hd : ∀ H', Same H1 H' → H' D = some (.lst zs) → Qd H') :
    ∃ W : Nat → Nat → Hp → Prop, (∃ m, W 0 m (upd H1 D (.lst []))) ∧ ∀ i m H, W i m H →
      ((Itr lo n).stop i H ∧ Qd H) ∨ ((Itr lo n).go i H ∧ ∃ Nx : Hp → Prop, (∀ H', Nx H' → ∃ m', m' < m ∧ W (i + 1) m' H') ∧ ∀ x H', (Itr lo n).yld i H x H' → g x (wipe σ vs) H' fun σ2 H2 => wipe σ2 vs = wipe σ vs ∧ tYes σ2 H2 fun b H3 =>
        if b = true then te σ2 H3 fun y H4 => ∃ acc, H4 D = some (.lst acc) ∧ acc.length < sizeLine ∧ Nx (upd H4 D (.lst (acc ++ [y]))) else Nx H3) :=
  lcv_wk (n := n) (G := fun _ => True) (f := fun i => .int (lo + i)) zs walk_rng lz hz hD (fun _ _ => trivial) hs hd
end
/-! with a filter: what stays is told by f over a list beside the walk -/
section
variable {K : PySem.W.Frag} {g : TG} {tt : TT} {te : TE} {vs : List Nat} {σ : L2.St} {H1 : Hp} {D : Addr} {Qd : Hp → Prop}
theorem lcf_wk {α : Type} {J : It} {n : Nat} {G : Hp → Prop} {v : Nat → V} (es : List α) (f : α → Option V) (w : Walk J n G fun i H x H' => H' = H ∧ x = v i) (le : es.length = n) (hz : n < 1000000) (hD : H1 D = none) (keep : ∀ H', Same H1 H' → G H')
    (hs : ∀ (i : Nat) (e : α) (H' : Hp), i < n → es[i]? = some e → Same H1 H' → ∀ (R : VK) (N : Hp → Prop), (∀ z H4, f e = some z → Same H' H4 → R z H4) → (∀ H4, f e = none → Same H' H4 → N H4) →
      g (v i) (wipe σ vs) H' fun σ2 H2 => wipe σ2 vs = wipe σ vs ∧ tt σ2 H2 fun b H3 => if b = true then te σ2 H3 R else N H3)
    (hd : ∀ H', Same H1 H' → H' D = some (.lst (es.filterMap f)) → Qd H') :
    ∃ W : Nat → Nat → Hp → Prop, (∃ m, W 0 m (upd H1 D (.lst []))) ∧ ∀ i m H, W i m H →
      (J.stop i H ∧ Qd H) ∨ (J.go i H ∧ ∃ Nx : Hp → Prop, (∀ H', Nx H' → ∃ m', m' < m ∧ W (i + 1) m' H') ∧ ∀ x H', J.yld i H x H' → g x (wipe σ vs) H' fun σ2 H2 => wipe σ2 vs = wipe σ vs ∧ tt σ2 H2 fun b H3 =>
        if b = true then te σ2 H3 fun y H4 => ∃ acc, H4 D = some (.lst acc) ∧ acc.length < sizeLine ∧ Nx (upd H4 D (.lst (acc ++ [y]))) else Nx H3) := by
  refine lc_it w (fun i H' => Same H1 H' ∧ H' D = some (.lst ((es.take i).filterMap f))) ⟨Same.fresh hD, upd_same⟩ (fun i H' _ p => keep H' p.1) (fun i x H' H'' hi p y => ?_) (fun H' p => ?_)
  · obtain ⟨S, hH⟩ := p
    obtain ⟨rfl, rfl⟩ := y
    have he : es[i]? = some es[i] := List.getElem?_eq_getElem (by omega)
    have tk : (es.take (i + 1)).filterMap f = (es.take i).filterMap f ++ (f es[i]).toList := by
      rw [List.take_succ, he, List.filterMap_append]
      congr 1
    refine hs i _ _ hi he S _ _ (fun z H4 hf S4 => ?_) (fun H4 hf S4 => ?_)
    · refine ⟨_, S4 _ _ hH, ?_, same_put (fun c u h => S4 _ _ (S _ _ h)) hD, ?_⟩
      · have h1 := List.length_filterMap_le f (es.take i)
        have h2 : (es.take i).length ≤ es.length := by rw [List.length_take]; omega
        exact Nat.lt_of_lt_of_le (by omega : ((es.take i).filterMap f).length < 1000000) (by decide)
      · rw [upd_same, tk, hf]; rfl
    · refine ⟨fun c u h => S4 _ _ (S _ _ h), ?_⟩
      rw [tk, hf]
      simpa using S4 _ _ hH
  · obtain ⟨S, hH⟩ := p
    rw [← le, List.take_length] at hH
    exact hd H' S hH
theorem lcf_list {α : Type} {a : Addr} {xs : List V} (es : List α) (f : α → Option V) (ha : H1 a = some (.lst xs)) (le : es.length = xs.length) (hz : xs.length < 1000000) (hD : H1 D = none)
    (hs : ∀ (i : Nat) (x : V) (e : α) (H' : Hp), xs[i]? = some x → es[i]? = some e → Same H1 H' → ∀ (R : VK) (N : Hp → Prop), (∀ z H4, f e = some z → Same H' H4 → R z H4) → (∀ H4, f e = none → Same H' H4 → N H4) →
      g x (wipe σ vs) H' fun σ2 H2 => wipe σ2 vs = wipe σ vs ∧ tt σ2 H2 fun b H3 => if b = true then te σ2 H3 R else N H3)
    (hd : ∀ H', Same H1 H' → H' D = some (.lst (es.filterMap f)) → Qd H') :
    ∃ W : Nat → Nat → Hp → Prop, (∃ m, W 0 m (upd H1 D (.lst []))) ∧ ∀ i m H, W i m H →
      ((Itl K a).stop i H ∧ Qd H) ∨ ((Itl K a).go i H ∧ ∃ Nx : Hp → Prop, (∀ H', Nx H' → ∃ m', m' < m ∧ W (i + 1) m' H') ∧ ∀ x H', (Itl K a).yld i H x H' → g x (wipe σ vs) H' fun σ2 H2 => wipe σ2 vs = wipe σ vs ∧ tt σ2 H2 fun b H3 =>
        if b = true then te σ2 H3 fun y H4 => ∃ acc, H4 D = some (.lst acc) ∧ acc.length < sizeLine ∧ Nx (upd H4 D (.lst (acc ++ [y]))) else Nx H3) := by
  refine lcf_wk (n := xs.length) (G := fun H => SqL K H a xs) (v := fun i => xs.getD i .non) es f ((walk_list).mono (fun _ h => h) fun i H x H' hi _ y => ⟨y.1, ?_⟩) le hz hD (fun H' S => SqL.of (S _ _ ha)) (fun i e H' hi he S => ?_) hd
  · rw [List.getD_eq_getElem?_getD, y.2]; rfl
  · have e' : xs[i]? = some (xs.getD i .non) := by rw [List.getD_eq_getElem?_getD, List.getElem?_eq_getElem hi]; rfl
    exact hs i _ e H' e' he S
theorem lcf_tup {α : Type} {a : Addr} {xs : List V} (es : List α) (f : α → Option V) (ha : Tup H1 a xs) (le : es.length = xs.length) (hz : xs.length < 1000000) (hD : H1 D = none)
    (hs : ∀ (i : Nat) (x : V) (e : α) (H' : Hp), xs[i]? = some x → es[i]? = some e → Same H1 H' → ∀ (R : VK) (N : Hp → Prop), (∀ z H4, f e = some z → Same H' H4 → R z H4) → (∀ H4, f e = none → Same H' H4 → N H4) →
      g x (wipe σ vs) H' fun σ2 H2 => wipe σ2 vs = wipe σ vs ∧ tt σ2 H2 fun b H3 => if b = true then te σ2 H3 R else N H3)
    (hd : ∀ H', Same H1 H' → H' D = some (.lst (es.filterMap f)) → Qd H') :
    ∃ W : Nat → Nat → Hp → Prop, (∃ m, W 0 m (upd H1 D (.lst []))) ∧ ∀ i m H, W i m H →
      ((Itt K a).stop i H ∧ Qd H) ∨ ((Itt K a).go i H ∧ ∃ Nx : Hp → Prop, (∀ H', Nx H' → ∃ m', m' < m ∧ W (i + 1) m' H') ∧ ∀ x H', (Itt K a).yld i H x H' → g x (wipe σ vs) H' fun σ2 H2 => wipe σ2 vs = wipe σ vs ∧ tt σ2 H2 fun b H3 =>
        if b = true then te σ2 H3 fun y H4 => ∃ acc, H4 D = some (.lst acc) ∧ acc.length < sizeLine ∧ Nx (upd H4 D (.lst (acc ++ [y]))) else Nx H3) := by
  refine lcf_wk (n := xs.length) (G := fun H => SqT K H a xs) (v := fun i => xs.getD i .non) es f ((walk_tup).mono (fun _ h => h) fun i H x H' hi _ y => ⟨y.1, ?_⟩) le hz hD (fun H' S => (ha.same S).sq) (fun i e H' hi he S => ?_) hd
  · rw [List.getD_eq_getElem?_getD, y.2]; rfl
  · have e' : xs[i]? = some (xs.getD i .non) := by rw [List.getD_eq_getElem?_getD, List.getElem?_eq_getElem hi]; rfl
    exact hs i _ e H' e' he S
end
/-! enumerate in a for -/
section
variable {K : PySem.W.Frag} {g : TG} {tb : TS} {D : Ends} {σ : L2.St} {H : Hp} {a : Addr} {xs : List V}
theorem for_enumL (Pv : Nat → L2.St → Hp → Prop) (h0 : Pv 0 σ H) (hl : ∀ i σ H', Pv i σ H' → SqL K H' a xs)
    (hs : ∀ i y σ H' T H2, xs[i]? = some y → Pv i σ H' → H' T = none → Same H' H2 → H2 T = some (.tup [.int (i : Nat), y]) → g (.ref T) σ H2 fun σ3 H3 => tb { D with nx := Pv (i + 1), ct := Pv (i + 1), bk := D.nx } σ3 H3)
    (hd : ∀ σ H', Pv xs.length σ H' → D.nx σ H') :
    ∃ W : Nat → Nat → L2.St → Hp → Prop, (∃ m, W 0 m σ H) ∧ ∀ i m σ H, W i m σ H →
      ((Ite K a).stop i H ∧ D.nx σ H) ∨ ((Ite K a).go i H ∧ ∃ N : L2.St → Hp → Prop, (∀ σ' H', N σ' H' → ∃ m', m' < m ∧ W (i + 1) m' σ' H') ∧ ∀ x H', (Ite K a).yld i H x H' → g x σ H' fun σ2 H2 => tb { D with nx := N, ct := N, bk := D.nx } σ2 H2) :=
  for_it (walk_enum (K := K) (xs := xs)) Pv h0 (fun i σ H' _ p => hl i σ H' p) (fun i v σ H1 H2 _ hp y => by
    obtain ⟨T, b, c, rfl, hT, rfl, hb, hc⟩ := y
    have hb : some (V.int (i : Nat)) = some b := hb
    cases hb
    exact hs i c σ H1 T _ hc hp hT (Same.fresh hT) upd_same) hd
theorem for_enumTu (Pv : Nat → L2.St → Hp → Prop) (h0 : Pv 0 σ H) (hl : ∀ i σ H', Pv i σ H' → SqT K H' a xs)
    (hs : ∀ i y σ H' T H2, xs[i]? = some y → Pv i σ H' → H' T = none → Same H' H2 → H2 T = some (.tup [.int (i : Nat), y]) → g (.ref T) σ H2 fun σ3 H3 => tb { D with nx := Pv (i + 1), ct := Pv (i + 1), bk := D.nx } σ3 H3)
    (hd : ∀ σ H', Pv xs.length σ H' → D.nx σ H') :
    ∃ W : Nat → Nat → L2.St → Hp → Prop, (∃ m, W 0 m σ H) ∧ ∀ i m σ H, W i m σ H →
      ((Itn K a).stop i H ∧ D.nx σ H) ∨ ((Itn K a).go i H ∧ ∃ N : L2.St → Hp → Prop, (∀ σ' H', N σ' H' → ∃ m', m' < m ∧ W (i + 1) m' σ' H') ∧ ∀ x H', (Itn K a).yld i H x H' → g x σ H' fun σ2 H2 => tb { D with nx := N, ct := N, bk := D.nx } σ2 H2) :=
  for_it (walk_enumT (K := K) (xs := xs)) Pv h0 (fun i σ H' _ p => hl i σ H' p) (fun i v σ H1 H2 _ hp y => by
    obtain ⟨T, b, c, rfl, hT, rfl, hb, hc⟩ := y
    have hb : some (V.int (i : Nat)) = some b := hb
    cases hb
    exact hs i c σ H1 T _ hc hp hT (Same.fresh hT) upd_same) hd
end
end KX

namespace KX
open PySem PySem.Spec PyProof.Rows L2
/-! t[::-1] of a tuple -/
section
variable {prog : Program} {w : World} {A : Around} {E : Value → Shared → Prop} {s : Shared}
theorem places_back (n : Nat) : Builtin.Slice.slicePlaces ((n : Int) - 1) (-1) (-1) = n := by
  unfold Builtin.Slice.slicePlaces
  have h1 : ¬ ((-1 : Int) > 0) := by omega
  have e : -(-1 : Int) = 1 := by decide
  simp only [h1, if_false, e, Int.ediv_one]
  split <;> omega
theorem applied_back {sl : Addr} {vl vu vs : Value} {n : Nat} {Q : Int × Int × Nat → Shared → Prop} (hs : s.heap.IsSliceOf sl vl vu vs) (pl : IsPart vl none) (pu : IsPart vu none) (ps : IsPart vs (some (-1)))
    (h : Q (((n : Int) - 1), -1, n) s) : wpAny (model prog w) A (Builtin.Slice.sliceApplied (.ref sl) (pure (n : Int))) Q E s := by
  obtain ⟨os, hos, hcs, hds⟩ := id hs
  unfold Builtin.Slice.sliceApplied Builtin.Slice.sliceFields
  refine wpAny_bind (wpAny_bind (wpAny_field hos hds (x := vl) rfl (wpAny_bind (wpAny_field hos hds (x := vu) rfl (wpAny_bind (wpAny_field hos hds (x := vs) rfl (wpAny_pure ?_)))))))
  refine wpAny_bind (HT.slicePart_ ps ?_)
  show wpAny _ _ (if ((-1 : Int) == 0) = true then _ else _) _ _ s
  rw [if_neg (by decide)]
  refine wpAny_bind (HT.slicePart_ pl (wpAny_bind (HT.slicePart_ pu (wpAny_bind (wpAny_pure ?_)))))
  have e : Builtin.Slice.sliceAdjust none none (-1) (n : Int) = ((n : Int) - 1, -1) := by
    unfold Builtin.Slice.sliceAdjust
    simp
  show wpAny _ _ (match Builtin.Slice.sliceAdjust none none (-1) (n : Int) with | (lo, hi) => pure (lo, (-1 : Int), Builtin.Slice.slicePlaces lo hi (-1))) _ _ s
  rw [e]
  show wpAny _ _ (pure ((n : Int) - 1, (-1 : Int), Builtin.Slice.slicePlaces ((n : Int) - 1) (-1) (-1))) _ _ s
  rw [places_back]
  exact wpAny_pure h
theorem pick_back (xs : Array Value) : ((List.range xs.size).filterMap fun (m : Nat) => xs[(((xs.size : Nat) : Int) - 1 + (m : Int) * (-1)).toNat]?).toArray = xs.toList.reverse.toArray := by
  congr 1
  have e : ∀ m ∈ List.range xs.size, xs[(((xs.size : Nat) : Int) - 1 + (m : Int) * (-1)).toNat]? = xs[xs.size - 1 - m]? := fun m hm => by
    have := List.mem_range.mp hm
    have e : (((xs.size : Nat) : Int) - 1 + (m : Int) * (-1)).toNat = xs.size - 1 - m := by omega
    rw [e]
  have e2 : ((List.range xs.size).filterMap fun (m : Nat) => xs[(((xs.size : Nat) : Int) - 1 + (m : Int) * (-1)).toNat]?) = (List.range xs.size).filterMap fun m => xs[xs.size - 1 - m]? := by
    have gen : ∀ l : List Nat, (∀ m ∈ l, m ∈ List.range xs.size) → (l.filterMap fun (m : Nat) => xs[(((xs.size : Nat) : Int) - 1 + (m : Int) * (-1)).toNat]?) = l.filterMap fun m => xs[xs.size - 1 - m]? := by
      intro l
      induction l with
      | nil => intro _; rfl
      | cons a l ih =>
        intro h
        rw [List.filterMap_cons, List.filterMap_cons, e a (h a List.mem_cons_self), ih fun m hm => h m (List.mem_cons_of_mem _ hm)]
    exact gen _ fun _ h => h
  rw [e2]
  have e3 := PySem.W.krv_range xs.size
  have e4 : ((List.range xs.size).filterMap fun m => xs[xs.size - 1 - m]?) = ((List.range xs.size).map fun k => xs.size - 1 - k).filterMap fun k => xs[k]? := by
    rw [List.filterMap_map]; rfl
  rw [e4, e3, List.filterMap_reverse]
  congr 1
  exact PySem.W.krv_all xs
theorem getItem_tuple_back {t sl : Addr} {items : Array Value} {vl vu vs : Value} {Q : Value → Shared → Prop} (ht : IsTup s.heap t items) (hs : s.heap.IsSliceOf sl vl vu vs) (pl : IsPart vl none) (pu : IsPart vu none) (ps : IsPart vs (some (-1)))
    (h : Q (.ref s.heap.objs.size) { s with heap := s.heap.push { cls := .type "tuple", data := .seq items.toList.reverse.toArray } })
    (hsz : items.size ≤ sizeLine) : wpAny (model prog w) A (getItem (.ref t) (.ref sl)) Q E s := by
  have htake : sizeOk (.seq items.toList.reverse.toArray) := by
    show items.toList.reverse.toArray.size ≤ sizeLine
    rw [List.size_toArray, List.length_reverse, Array.length_toList]
    exact hsz
  obtain ⟨os, hos, hcs, hds⟩ := id hs
  have hTs : s.TypeIs (.ref sl) "slice" := ⟨os, hos, hcs⟩
  unfold getItem
  try with_reducible refine wpAny_holding ?_
  first | refine wpAny_bind (wpAny_pure ?_) | skip
  refine wpAny_bind (wpAny_sequenceKey ht.typeIs (by decide) ?_)
  refine wpAny_bind (wpAny_callSpecial?_slot (name := Str.ofString "__getitem__") ht.typeIs PyProof.Rows.slot_tuple_getitem
    (wpAny_call_entry PyProof.Rows.slot_tuple_getitem ht.typeIs entry_tuple_getitem ?_ (args_tuple_getitem _ _)))
  show wpAny _ _ (Builtin.Tuple.tupleItemsOf (.ref t) >>= _) _ _ s
  refine wpAny_bind (tupleItemsOf_ ht ?_)
  refine wpAny_bind (wpAny_typeOf hTs ?_)
  rw [if_pos (by decide)]
  refine wpAny_bind (applied_back (n := items.size) hs pl pu ps ?_)
  have hno : ¬ ((((items.size : Nat) : Int) - 1 == 0 && (-1 : Int) == 1 && items.size == items.size) = true) := by
    intro q
    rw [Bool.and_eq_true, Bool.and_eq_true] at q
    exact absurd q.1.2 (by decide)
  show wpAny _ _ (if (((items.size : Nat) : Int) - 1 == 0 && (-1 : Int) == 1 && items.size == items.size) = true then _ else _) _ _ s
  rw [if_neg hno, pick_back]
  first
    | exact wpAny_bind (m := Builtin.Tuple.tupleExact _) (wpAny_newObj_type (wpAny_pure ⟨_, rfl, wpAny_pure h⟩) htake)
    | exact wpAny_bind (m := Builtin.Tuple.tupleExact _) (wpAny_newObj_type (wpAny_bind (wpAny_pure (wpAny_pure ⟨_, rfl, wpAny_pure h⟩))) htake)
    | exact wpAny_bind (wpAny_bind (m := Builtin.Tuple.tupleExact _) (wpAny_newObj_type (wpAny_pure (wpAny_pure ⟨_, rfl, wpAny_pure h⟩)) htake))
    | exact wpAny_bind (wpAny_bind (m := Builtin.Tuple.tupleExact _) (wpAny_newObj_type (wpAny_pure ⟨_, rfl, wpAny_pure h⟩) htake))
end
section
variable {X : Cx} {K : PySem.W.Frag}
/-- t[::-1] -/
def tRevT (K : PySem.W.Frag) (te : TE) : TE := fun σ H Q => te σ H fun x H1 => ∃ a xs, x = .ref a ∧ Tup H1 a xs ∧ ∀ H' p, Same H1 H' → H1 p = none → H' p = some (.tup xs.reverse) → Q (.ref p) H'
theorem pe_revT {e : Expr} {te : TE} {k : Nat} {p1 p2 p3 pos : Pos} (he : PE X e te) : PE X (.Subscript e (.Slice none none (some (.UnaryOp .USub (.Constant (.int 1) k p1) p2)) p3) pos) (tRevT K te) := by
  refine ⟨fun pins s σ H Q I h => ?_⟩
  refine Subscript_ (thn (he.run pins s σ H _ I h) fun v s1 ⟨x, H1, I1, r1, q1⟩ => ?_)
  obtain ⟨a, xs, ex, hx, q⟩ := q1
  subst ex
  cases r1
  have hst : PO X (some (.UnaryOp .USub (.Constant (.int 1) k p1) p2)) (tPart (tUn (rU fun i => .int (-i)) (tC (.int 1)))) := po_some (pe_un un_neg pe_int)
  refine wpAny_Slice (thn (po_none.run pins s1 σ H1 (fun o H2 => o = none ∧ H2 = H1) I1 ⟨rfl, rfl⟩) fun vl s2 ⟨l, H2, I2, pl, el, e2⟩ => ?_)
  subst el e2
  refine thn (po_none.run pins s2 σ H2 (fun o H3 => o = none ∧ H3 = H2) I2 ⟨rfl, rfl⟩) fun vu s3 ⟨u, H3, I3, pu, eu, e3⟩ => ?_
  subst eu e3
  refine thn (hst.run pins s3 σ H3 (fun o H4 => o = some (-1) ∧ H4 = H3) I3 ⟨1, rfl, -1, rfl, rfl, rfl⟩) fun vs s4 ⟨o, H4, I4, ps, eo, e4⟩ => ?_
  subst eo e4
  have I5 : Inv X pins σ H4 { s4 with heap := s4.heap.push { cls := .type "slice", data := .fields #[vl, vu, vs] } } := I4.kept (t' := s4.toks) fun b ob q => Heap.get?_push_of_some _ q
  obtain ⟨its, r, ht, hz⟩ := I5.tuple hx.sq
  have hlen := r.length
  show wpAny (model X.prog X.w) X.A (subscriptTail e (.Slice none none (some (.UnaryOp .USub (.Constant (.int 1) k p1) p2)) p3) (.ref a) (.ref s4.heap.objs.size)) (EP X pins σ Q) X.xe { s4 with heap := s4.heap.push { cls := .type "slice", data := .fields #[vl, vu, vs] } }
  refine tail_any (ops := [.ref a, .ref s4.heap.objs.size]) ht.typeIs (PyProof.Rows.slot_tuple_getitem.lookup) ?_ (by with_unfolding_all rfl)
  refine getItem_tuple_back ht (Heap.IsSliceOf.new _ vl vu vs) pl pu ps ?_ (by rw [List.size_toArray]; omega)
  refine ⟨.ref _, _, I5.laid (t' := s4.toks) (o := .tup xs.reverse) (fun b ob q => Heap.get?_push_of_some _ q) (Nat.le_refl _) ?_, rfl, q _ _ (Same.fresh (I5.hok.fresh (Nat.le_refl _))) (I5.hok.fresh (Nat.le_refl _)) upd_same⟩
  exact ⟨by rw [List.length_reverse]; exact hz, _, r.reverse, IsTup.new _ _⟩
theorem rd_revT {te : TE} {σ : L2.St} {H : Hp} {Q : VK} (h : te σ H fun x H1 => ∃ a xs, x = .ref a ∧ Tup H1 a xs ∧ NewO H1 (.tup xs.reverse) Q) : tRevT K te σ H Q := by
  have e : (fun x H1 => ∃ a xs, x = V.ref a ∧ Tup H1 a xs ∧ NewO H1 (.tup xs.reverse) Q) = (fun x H1 => ∃ a xs, x = V.ref a ∧ Tup H1 a xs ∧ ∀ H' p, Same H1 H' → H1 p = none → H' p = some (.tup xs.reverse) → Q (.ref p) H') := by
    funext x H1
    refine propext ⟨fun ⟨a, xs, h1, h2, h3⟩ => ⟨a, xs, h1, h2, fun H' p s n e => h3 p H' n s e⟩, fun ⟨a, xs, h1, h2, h3⟩ => ⟨a, xs, h1, h2, fun p H' n s e => h3 H' p s n e⟩⟩
  show te σ H _
  rw [← e]
  exact h
end
end KX

namespace KX
open PySem PySem.Spec PyProof.Rows L2
/-! sorted of a list of data that are alike -/
def rSortD (K : PySem.W.Frag) : List V → Hp → VK → Prop := fun vs H Q => ∃ (β : Type) (enc : β → PyData) (a : Addr) (xs : List V) (bs : List β) (F : V → β → Prop), vs = [V.ref a] ∧ SqL K H a xs ∧ Paired F xs bs ∧ (∀ x b, F x b → Dp K H x (enc b)) ∧
  (∀ b b', PySem.W.alike (enc b) (enc b') = true) ∧ (∀ b, ∃ x r, enc b = .tuple (x :: r)) ∧ (∀ b, (enc b).depth ≤ 60) ∧
  ∀ ys p, Paired F ys (bs.mergeSort (PySem.W.dataLe false enc)) → H p = none → Q (.ref p) (upd H p (.lst ys))
theorem each_zip {β : Type} {F : V → β → Prop} {xs : List V} {bs : List β} {its : List Value} (r : Vals xs its) (p : Paired F xs bs) : PySem.W.EachIs (fun u (z : V × β) => RelV z.1 u) its (xs.zip bs) := by
  induction p generalizing its with
  | nil => cases r; exact .nil
  | cons a _ ih =>
    cases r with
    | cons r1 r2 => exact .cons r1 (ih r2)
theorem each_reads {X : Cx} {pins : List (Addr × Obj)} {σ : L2.St} {H : Hp} {s : Shared} {β : Type} {F : V → β → Prop} {enc : β → PyData} {xs : List V} {bs : List β} {its : List Value} (I : L2.Inv X pins σ H s) (r : Vals xs its) (p : Paired F xs bs) (hd : ∀ x b, F x b → Dp X.K H x (enc b)) :
    PySem.W.EachIs (fun u (z : V × β) => ∃ as, Reads s.heap u (enc z.2) as) its (xs.zip bs) := by
  induction p generalizing its with
  | nil => cases r; exact .nil
  | cons a _ ih =>
    cases r with
    | cons r1 r2 => exact .cons (Dp.reads I _ _ _ (hd _ _ a) r1) (ih r2)
theorem paired_zip {β : Type} {F : V → β → Prop} {xs : List V} {bs : List β} (p : Paired F xs bs) : (∀ z ∈ xs.zip bs, F z.1 z.2) ∧ (xs.zip bs).map (·.2) = bs := by
  induction p with
  | nil => exact ⟨by simp, rfl⟩
  | cons a _ ih =>
    refine ⟨fun z hz => ?_, ?_⟩
    · rcases List.mem_cons.mp hz with e | e
      · rw [e]; exact a
      · exact ih.1 z e
    · have := ih.2
      exact congrArg (_ :: ·) this
theorem paired_of {β : Type} {F : V → β → Prop} : ∀ zs : List (V × β), (∀ z ∈ zs, F z.1 z.2) → Paired F (zs.map (·.1)) (zs.map (·.2))
  | [], _ => .nil
  | z :: zs, h => .cons (h z List.mem_cons_self) (paired_of zs fun y hy => h y (List.mem_cons_of_mem _ hy))
theorem vals_each {β : Type} : ∀ {out : List Value} {zs : List (V × β)}, PySem.W.EachIs (fun u (z : V × β) => RelV z.1 u) out zs → Vals (zs.map (·.1)) out
  | _, _, .nil => .nil
  | _, _, .cons a t => .cons a (vals_each t)
theorem cr_sortedD {X : Cx} (hu : X.A.units + 64 < cLine) : CallR X (.builtin "sorted") (rSortD X.K) := by
  intro pins s σ H vs us Q I r h
  obtain ⟨β, enc, a, xs, bs, F, rfl, hs, hp, hd, hal, htp, hdep, q⟩ := h
  obtain ⟨its, rv, hl, hz⟩ := I.list hs
  rw [Vals.ref1 r]
  obtain ⟨pz, pe⟩ := paired_zip hp
  have em : (xs.zip bs).map (fun z => enc z.2) = bs.map enc := by
    have : (xs.zip bs).map (fun z => enc z.2) = ((xs.zip bs).map (·.2)).map enc := by rw [List.map_map]; rfl
    rw [this, pe]
  refine PySem.W.sorted_data (bs := xs.zip bs) (enc := fun z => enc z.2) (R := fun u (z : V × β) => RelV z.1 u) hl.isList (each_zip rv hp) (each_reads I rv hp hd) (PySem.W.AllAlike.of fun z z' => hal z.2 z'.2) (PySem.W.Sortable.tuples fun z => htp z.2)
    (by rw [List.length_zip]; omega) (fun z _ => by have := hdep z.2; omega) fun out lo eo => ?_
  have hout := vals_each eo
  have ez : ((xs.zip bs).mergeSort (PySem.W.dataLe false fun z => enc z.2)).map (·.2) = bs.mergeSort (PySem.W.dataLe false enc) := by
    rw [List.map_mergeSort (r := PySem.W.dataLe false fun z : V × β => enc z.2) (s := PySem.W.dataLe false enc) (f := fun z : V × β => z.2) (fun a _ b _ => rfl), pe]
  have pf : Paired F (((xs.zip bs).mergeSort (PySem.W.dataLe false fun z => enc z.2)).map (·.1)) (bs.mergeSort (PySem.W.dataLe false enc)) := by
    rw [← ez]
    exact paired_of _ fun z hz => pz z ((List.mergeSort_perm _ _).mem_iff.mp hz)
  obtain ⟨ep, he'⟩ := PyProof.Rows.sortedAll_at s.heap its out.toArray
  refine ⟨.ref _, upd H (s.heap.objs.size + 1) (.lst (((xs.zip bs).mergeSort (PySem.W.dataLe false fun z => enc z.2)).map (·.1))), I.laid (t' := s.toks) (fun _ _ => PyProof.Rows.sortedAll_old) (Nat.le_succ _) ⟨?_, out, ep, hout, he'⟩, rfl, q _ _ pf (I.hok.fresh (Nat.le_succ _))⟩
  rw [List.length_map, (List.mergeSort_perm _ _).length_eq, List.length_zip]
  omega
theorem cr_sortedDK {X : Cx} {K : PySem.W.Frag} (hu : X.A.units + 64 < cLine) (hK : X.K = K := by rfl) : CallR X (.builtin "sorted") (rSortD K) := by subst hK; exact cr_sortedD hu
end KX

namespace KX
open PySem PySem.Spec PyProof.Rows L2
/-! min of a tuple of ints; a list times a number; an item set -/
theorem minOf_le : ∀ (xs : List Int) (x : Int), PySem.W.minOf x xs ∈ x :: xs ∧ ∀ y ∈ x :: xs, PySem.W.minOf x xs ≤ y
  | [], x => ⟨List.mem_cons_self, fun y hy => by
      have : y = x := by simpa using hy
      rw [this]; exact Int.le_refl _⟩
  | z :: xs, x => by
    have e : PySem.W.minOf x (z :: xs) = PySem.W.minOf (if z < x then z else x) xs := by
      show List.foldl _ (if decide (z < x) = true then z else x) xs = List.foldl _ (if z < x then z else x) xs
      by_cases c : z < x
      · rw [if_pos (decide_eq_true c), if_pos c]
      · rw [if_neg (by simp [c]), if_neg c]
    rw [e]
    obtain ⟨h1, h2⟩ := minOf_le xs (if z < x then z else x)
    have h3 := h2 _ List.mem_cons_self
    refine ⟨?_, fun y hy => ?_⟩
    · rcases List.mem_cons.mp h1 with y | y
      · rw [y]
        by_cases c : z < x
        · rw [if_pos c]; simp
        · rw [if_neg c]; simp
      · exact List.mem_cons_of_mem _ (List.mem_cons_of_mem _ y)
    · rcases List.mem_cons.mp hy with w | w
      · rw [w]
        by_cases c : z < x
        · rw [if_pos c] at h3; rw [if_pos c]; omega
        · rw [if_neg c] at h3; rw [if_neg c]; exact h3
      · rcases List.mem_cons.mp w with w | w
        · rw [w]
          by_cases c : z < x
          · rw [if_pos c] at h3; rw [if_pos c]; exact h3
          · rw [if_neg c] at h3; rw [if_neg c]; omega
        · exact h2 y (List.mem_cons_of_mem _ w)
def rMinT (K : PySem.W.Frag) : List V → Hp → VK → Prop := fun vs H Q => ∃ (a : Addr) (ns : List Int), vs = [V.ref a] ∧ SqT K H a (ns.map V.int) ∧ 0 < ns.length ∧ ∀ m, m ∈ ns → (∀ y, y ∈ ns → m ≤ y) → Q (.int m) H
theorem cr_minT {X : Cx} (hc : X.calm = true) (hu : X.A.units + 64 < cLine) : CallR X (.builtin "min") (rMinT X.K) := by
  intro pins s σ H vs us Q I r h
  obtain ⟨a, ns, rfl, hs, hne, q⟩ := h
  obtain ⟨its, rv, ht, _⟩ := I.tuple hs
  rw [Vals.ref1 r]
  have hi := rv.ints
  cases ns with
  | nil => exact absurd hne (by simp)
  | cons n ns =>
    refine PySem.W.min_tuple_datum (α := Int) (x := n) (xs := ns) (I.ok.hd hc) ht (by simpa using PySem.W.HoldAll.of_ints hi) ?_ fun i v h' tk hv hh hk => ?_
    · have : PySem.W.Datum.depth Int ≤ 60 := by decide
      omega
    · obtain ⟨t, rfl⟩ := PySem.W.int_of_holds hh
      obtain ⟨h1, h2⟩ := minOf_le ns n
      exact ⟨.int _, H, I.kept hk, ⟨_, rfl⟩, q _ h1 h2⟩
theorem cr_minTK {X : Cx} {K : PySem.W.Frag} (hc : X.calm = true) (hu : X.A.units + 64 < cLine) (hK : X.K = K := by rfl) : CallR X (.builtin "min") (rMinT K) := by subst hK; exact cr_minT hc hu
/-- the least of a list of numbers -/
def leastI (l : List Int) : Int := match l with
  | [] => 0
  | x :: xs => PySem.W.minOf x xs
theorem leastI_of {l : List Int} {m : Int} (hm : m ∈ l) (h : ∀ y ∈ l, m ≤ y) : m = leastI l := by
  cases l with
  | nil => cases hm
  | cons x xs =>
    obtain ⟨h1, h2⟩ := minOf_le xs x
    have a := h _ h1
    have b := h2 _ hm
    show m = PySem.W.minOf x xs
    omega
theorem rd_minT {K : PySem.W.Frag} {H : Hp} {Q : VK} {p : Addr} {ns : List Int} (ha : Tup H p (ns.map V.int)) (hn : 0 < ns.length) (h : Q (.int (leastI ns)) H) : rMinT K [.ref p] H Q :=
  ⟨p, ns, rfl, ha.sq, hn, fun m h1 h2 => by rw [leastI_of h1 h2]; exact h⟩
theorem rd_min {K : PySem.W.Frag} {H : Hp} {Q : VK} {p : Addr} {ns : List Int} (ha : H p = some (.lst (ns.map V.int))) (hn : 0 < ns.length) (h : Q (.int (leastI ns)) H) : rMin K [.ref p] H Q :=
  ⟨p, ns, rfl, SqL.of ha, hn, fun m h1 h2 => by rw [leastI_of h1 h2]; exact h⟩
theorem rd_sum {K : PySem.W.Frag} {H : Hp} {Q : VK} {p : Addr} {ns : List Int} (ha : H p = some (.lst (ns.map V.int))) (h : Q (.int ns.sum) H) : rSum K [.ref p] H Q := ⟨p, ns, rfl, SqL.of ha, h⟩
theorem rd_all {K : PySem.W.Frag} {H : Hp} {Q : VK} {p : Addr} {bs : List Bool} (ha : H p = some (.lst (bs.map V.bl))) (h : Q (.bl (bs.all id)) H) : rAll K [.ref p] H Q := ⟨p, bs, rfl, SqL.of ha, h⟩
theorem flat_one (k : Nat) (v : V) : (List.replicate k [v]).flatten = List.replicate k v := by
  induction k with
  | zero => rfl
  | succ k ih => rw [List.replicate_succ, List.flatten_cons, ih]; rfl
/-- [v] * k -/
theorem rd_rep1 {H : Hp} {Q : VK} {l : Addr} {k : Nat} {v : V} (hl : H l = some (.lst [v])) (hk : k < 1000) (h : NewO H (.lst (List.replicate k v)) Q) : rRep (.ref l) (.int (k : Nat)) H Q :=
  ⟨l, k, [v], rfl, rfl, hl, by omega, by omega, by
    have : ((k : Nat) : Int).toNat = k := by omega
    rw [this]
    exact Nat.le_trans (by simp; omega : [v].length * k ≤ 1000) (by decide), fun p hp => by
    have : ((k : Nat) : Int).toNat = k := by omega
    rw [this, flat_one]
    exact new_of h p hp⟩
theorem rd_setL {H : Hp} {p : Addr} {xs : List V} {k : Int} {v : V} {Q : Hp → Prop} (hp : H p = some (.lst xs)) (h0 : 0 ≤ k) (h1 : k < xs.length) (h : Q (upd H p (.lst (xs.set k.toNat v)))) : rSetL (.ref p) (.int k) v H Q :=
  ⟨p, xs, k, k.toNat, rfl, rfl, hp, by
    unfold ixN
    rw [if_pos h0]
    first
      | (rw [if_pos (by omega)])
      | (split <;> first | rfl | omega), h⟩
/-- t + u of tuples -/
theorem rd_catW {H : Hp} {Q : VK} {a b : Addr} {xs ys : List V} (ha : Tup H a xs) (hb : Tup H b ys) (hl : xs.length + ys.length ≤ 1000) (h : ∀ H' p, Same H H' → Tup H' p (xs ++ ys) → Q (.ref p) H') : rCatW (.ref a) (.ref b) H Q :=
  ⟨a, b, xs, ys, rfl, rfl, ha, hb, Nat.le_trans hl (by decide), h⟩
theorem rd_slW {H : Hp} {Q : VK} {a : Addr} {xs : List V} {lo hi : Option Int} (ha : Tup H a xs) (h : ∀ H' p, Same H H' → Tup H' p (cutV xs lo hi) → Q (.ref p) H') : rSlW (.ref a) lo hi H Q := ⟨a, xs, rfl, ha, h⟩
end KX

namespace KX
open PySem PySem.Spec PyProof.Rows L2
/-! ### xs[i] += e of a list: the read -/
/-- the entry of a list at a place that is there (for xs[i] op= e: the read of ps_augS) -/
def rGetL (K : PySem.W.Frag) : V → V → Hp → VK → Prop := fun o i H Q => ∃ p xs k v, o = .ref p ∧ i = .int k ∧ SqL K H p xs ∧ 0 ≤ k ∧ xs[k.toNat]? = some v ∧ Q v H
theorem get_list {X : Cx} : PGet X (rGetL X.K) := by
  intro pins s σ H o i ov iv Q I ro ri h
  obtain ⟨p, xs, k, v, rfl, rfl, hx, h0, hv, hQ⟩ := h
  cases ro
  obtain ⟨t, rfl⟩ := ri
  obtain ⟨its, r, ht, hz⟩ := I.list hx
  have hl := r.length
  obtain ⟨hk, hv2⟩ := List.getElem?_eq_some_iff.mp hv
  obtain ⟨u, hu, ru⟩ := r.get hv
  have hz2 : (PySem.sizeLine : Nat) < 2 ^ 63 := by decide +kernel
  refine wpAny_getItem_list ht.isList h0 (by omega) (x := u) (by rw [List.getElem?_toArray]; exact hu) ⟨v, H, I, ru, hQ⟩
/-! ### (v,) * k -/
/-- t * 1, t * 0 of a tuple with entries -/
def rRep01 (K : PySem.W.Frag) : R2 := fun x y H Q => ∃ l k xs, x = .ref l ∧ y = .int k ∧ SqT K H l xs ∧ xs ≠ [] ∧ ((k = 1 ∧ Q (.ref l) H) ∨ (k = 0 ∧ NewO H (.tup []) Q))
theorem op_rep01 {X : Cx} : OpR X (binaryOp .Mult) (rRep01 X.K) := by
  intro pins s σ H x y v u Q I rx ry h
  obtain ⟨l, k, xs, rfl, rfl, hx, ne, hk⟩ := h
  cases rx
  obtain ⟨t, rfl⟩ := ry
  obtain ⟨its, r, ht, hz⟩ := I.tuple hx
  have hl := r.length
  obtain ⟨o, ho, hc, n, hd⟩ := ht
  obtain ⟨oc, od, oda, osl⟩ := o
  cases hc
  cases hd
  have ht : IsTup s.heap l its.toArray := ⟨_, ho, rfl, n, rfl⟩
  refine wpAny_binaryOp_repeat_ref (T := "tuple") (U := "int") (id := "tuple.__mul__") (idr := "int.__rmul__") (ix := .builtin "int.__index__") (by decide) ht.typeIs (fun s' => rfl) L2.noFill_tuple_mul (by with_unfolding_all rfl) F.slot_int_rmul L2.repeat_tuple (by with_unfolding_all rfl) ?_
  refine call_meets F.slot_int_rmul rfl F.entry_int_rmul (by with_unfolding_all rfl) (L2.int_rmul_tuple k t l its.toArray n od osl) ⟨ho, rfl, ht.typeIs, ?_⟩
  refine wpAny_call_entry F.slot_tuple_mul ht.typeIs F.entry_tuple_mul ?_ (F.args_tuple_mul_2 _ _)
  have hne : its.toArray.isEmpty = false := by
    cases its with
    | nil => exact absurd (List.length_eq_zero_iff.mp hl) ne
    | cons a b => rfl
  rcases hk with ⟨rfl, hQ⟩ | ⟨rfl, hQ⟩
  · show wpAny _ _ (asIndex (.int 1 t) >>= _) _ _ s
    refine wpAny_bind (m := asIndex (.int 1 t)) (wpAny_bind (wpAny_pure (wpAny_pure ?_)))
    show wpAny _ _ (Builtin.Tuple.tupleItemsOf (.ref l) >>= _) _ _ s
    refine wpAny_bind (tupleItemsOf_ ht ?_)
    show wpAny _ _ (if (its.toArray.isEmpty || (1 : Int) == 1) = true then _ else _) _ _ s
    rw [if_pos (by rw [hne]; decide)]
    refine wpAny_bind (m := Builtin.Tuple.tupleIsExact (.ref l)) (wpAny_bind (wpAny_typeOf ht.typeIs (wpAny_pure ?_)))
    rw [if_pos (by decide)]
    first
      | exact wpAny_bind (wpAny_rule (wpAny_pure ⟨_, rfl, .ref l, H, I, rfl, hQ⟩))
      | exact wpAny_bind (wpAny_pure (wpAny_pure ⟨_, rfl, .ref l, H, I, rfl, hQ⟩))
      | exact wpAny_pure ⟨_, rfl, .ref l, H, I, rfl, hQ⟩
  · show wpAny _ _ (asIndex (.int 0 t) >>= _) _ _ s
    refine wpAny_bind (m := asIndex (.int 0 t)) (wpAny_bind (wpAny_pure (wpAny_pure ?_)))
    show wpAny _ _ (Builtin.Tuple.tupleItemsOf (.ref l) >>= _) _ _ s
    refine wpAny_bind (tupleItemsOf_ ht ?_)
    show wpAny _ _ (if (its.toArray.isEmpty || (0 : Int) == 1) = true then _ else _) _ _ s
    rw [if_neg (by rw [hne]; decide)]
    show wpAny _ _ (if (decide ((0 : Int) ≤ 0) || its.toArray.isEmpty) = true then _ else _) _ _ s
    rw [if_pos (by rw [hne]; decide)]
    have I5 : Inv X pins σ (upd H s.heap.objs.size (.tup [])) { s with heap := s.heap.push { cls := .type "tuple", data := .seq #[] } } :=
      I.laid (t' := s.toks) (o := .tup []) (fun b ob q => Heap.get?_push_of_some _ q) (Nat.le_refl _) ⟨by decide +kernel, _, .nil, IsTup.new _ _⟩
    refine wpAny_bind (m := Builtin.Tuple.tupleExact _) (wpAny_newObj_type ?_ (by show (0 : Nat) ≤ _; exact Nat.zero_le _))
    refine wpAny_pure ⟨_, rfl, .ref _, _, I5, rfl, hQ _ _ (I.hok.fresh (Nat.le_refl _)) (Same.fresh (I.hok.fresh (Nat.le_refl _))) upd_same⟩
/-- (v,) * k of any small number: a tuple of k times v -/
def rRepW : R2 := fun x y H Q => ∃ (l : Addr) (k : Nat) (v : V), x = .ref l ∧ y = .int k ∧ Tup H l [v] ∧ k ≤ 1000 ∧ ∀ H' a, Same H H' → Tup H' a (List.replicate k v) → Q (.ref a) H'
theorem op_repW {X : Cx} : OpR X (binaryOp .Mult) rRepW := by
  intro pins s σ H x y v u Q I rx ry h
  obtain ⟨l, k, w, e1, e2, hx, hk, hQ⟩ := h
  match k, hk, e2, hQ with
  | 0, _, e2, hQ => exact op_rep01 pins s σ H x y v u Q I rx ry ⟨l, 0, [w], e1, e2, hx.sq, by simp, .inr ⟨rfl, fun p H' n S e => hQ H' p S (Tup.of e)⟩⟩
  | 1, _, e2, hQ => exact op_rep01 pins s σ H x y v u Q I rx ry ⟨l, 1, [w], e1, e2, hx.sq, by simp, .inl ⟨rfl, hQ H l (Same.refl H) hx⟩⟩
  | k + 2, hk, e2, hQ =>
    refine op_repT pins s σ H x y v u Q I rx ry ⟨l, _, [w], e1, e2, hx.sq, by simp, by omega, by omega, by simp, fun p hp => hQ _ p (Same.fresh hp) (Tup.of ?_)⟩
    have e : (((k + 2 : Nat) : Int)).toNat = k + 2 := by omega
    rw [e, flat_one]
    exact upd_same
end KX

namespace KX
open PySem PySem.Spec PyProof.Rows L2
section
variable {prog : Program} {w : World} {A : Around} {E : Value → Shared → Prop} {s : Shared}
/-- sorted(t, reverse=b) of a tuple of whole numbers -/
theorem sorted_tupR {l : Addr} {vs : List Value} {ns : List Int} {n : Nat} {dd : Option Addr} {sl : Array (Option Value)} {b : Bool} {Q : Value → Shared → Prop}
    (hl : s.heap.get? l = some ⟨.type "tuple", dd, .seq vs.toArray n, sl⟩) (hI : IntsAre vs ns) (hz : vs.length ≤ sizeLine)
    (h : ∀ (out : Array Value) (ns' : List Int), IntsAre out.toList ns' → ns'.Perm ns → Ordered b ns' →
      Q (.ref (s.heap.objs.size + 1)) { s with heap := sortedAll s.heap vs out }) :
    wpAny (model prog w) A (call (.builtin "sorted") [.ref l] [(Str.ofString "reverse", .bool b)]) Q E s := by
  refine call_function_entry_kw kind_sorted plain_sorted entry_sorted (args_sorted_rev _ _) ?_
  unfold Builtin.«sorted»
  refine wpAny_bind (m := checkCount "sorted" 1 1 _) (wpAny_pure ?_)
  apply wpAny_bind
  refine collect_tup hl hz ?_
  apply wpAny_bind
  refine wpAny_newList ?_ (hsz := hz)
  have hs2 : ((s.heap.push (seqObj "list" #[] 0)).update s.heap.objs.size
      (Obj.mapSeq (· ++ vs.toArray))).objs.size = s.heap.objs.size + 1 := by
    rw [Heap.size_update]
    exact Heap.size_push ..
  have ho : (((s.heap.push (seqObj "list" #[] 0)).update s.heap.objs.size
      (Obj.mapSeq (· ++ vs.toArray))).push (seqObj "list" vs.toArray 0)).get? (s.heap.objs.size + 1) =
      some (seqObj "list" vs.toArray 0) := by
    rw [← hs2]
    exact Heap.get?_push_size _ rfl
  show wpAny _ _ _ _ _
    { s with heap := (((s.heap.push (seqObj "list" #[] 0)).update s.heap.objs.size
      (Obj.mapSeq (· ++ vs.toArray))).push (seqObj "list" vs.toArray 0)) }
  rw [hs2]
  apply wpAny_bind
  apply wpAny_holding
  refine wpAny_call_entry_kw slot_list_sort ⟨_, ho, rfl⟩ entry_list_sort ?_ (args_list_sort_rev _ _)
  refine SrtR.list_sort_ordR SrtO.swo_int ho hz (fun h2 => SrtO.ints_sortable hI h2) fun out h1 h2 => ⟨_, rfl, ?_⟩
  obtain ⟨ns', a1, a2, a3⟩ := SrtR.ints_outR hI h1 h2
  exact wpAny_pure ⟨_, rfl, h _ ns' a1 a2 a3⟩
end
def rSortRevT (K : PySem.W.Frag) (b : Bool) : List V → List V → Hp → VK → Prop := fun vs zs H Q => ∃ (a : Addr) (ns : List Int), vs = [V.ref a] ∧ zs = [V.bl b] ∧ Tup H a (ns.map V.int) ∧
  ∀ (ns' : List Int) (p : Addr) (H' : Hp), ns'.Perm ns → OrdB b ns' → H p = none → Same H H' → H' p = some (.lst (ns'.map V.int)) → Q (.ref p) H'
theorem cr_sortedRevT {X : Cx} {b : Bool} : CallRK X (.builtin "sorted") [Str.ofString "reverse"] (rSortRevT X.K b) := by
  intro pins s σ H xs zs us ws Q I r rz h
  obtain ⟨a, ns, rfl, rfl, hs, q⟩ := h
  obtain ⟨its, rv, ⟨⟨cls, dd, data, sl⟩, ho, hc, n, hd⟩, hz⟩ := I.tuple hs.sq
  simp only at hc hd
  subst hc hd
  rw [Vals.ref1 r]
  obtain ⟨wv, rfl, rb⟩ := rz.one
  cases rb
  have hi := rv.ints
  have hl := rv.length
  refine sorted_tupR ho hi (by omega) fun out ns' h1 h2 h3 => ?_
  obtain ⟨ep, he⟩ := sortedAll_at s.heap its out
  have hlen : (ns'.map V.int).length ≤ sizeLine := by
    rw [List.length_map, h2.length_eq]
    rw [List.length_map] at hz
    exact hz
  have nf := I.hok.fresh (Nat.le_succ s.heap.objs.size)
  refine ⟨.ref _, upd H (s.heap.objs.size + 1) (.lst (ns'.map V.int)), ?_, rfl, q ns' _ _ h2 h3 nf (Same.fresh nf) upd_same⟩
  exact I.laid (t' := s.toks) (fun _ _ => sortedAll_old) (Nat.le_succ _) ⟨hlen, out.toList, ep, vals_of_ints h1, he⟩
/-! max(list, default=d) of whole numbers -/
theorem foldmax : ∀ (ns : List Int) (n : Int), ns.foldl max n ∈ n :: ns ∧ ∀ y ∈ n :: ns, y ≤ ns.foldl max n
  | [], n => ⟨List.mem_singleton.mpr rfl, fun y hy => by rw [List.mem_singleton.mp hy]; exact Int.le_refl _⟩
  | m :: ns, n => by
    obtain ⟨h1, h2⟩ := foldmax ns (max n m)
    show ns.foldl max (max n m) ∈ _ ∧ ∀ y ∈ n :: m :: ns, y ≤ ns.foldl max (max n m)
    have h3 := h2 (max n m) (List.mem_cons_self ..)
    constructor
    · rcases List.mem_cons.mp h1 with e | e
      · rw [e]
        by_cases c : n ≤ m
        · rw [show max n m = m by omega]; simp
        · rw [show max n m = n by omega]; simp
      · exact List.mem_cons_of_mem _ (List.mem_cons_of_mem _ e)
    · intro y hy
      rcases List.mem_cons.mp hy with e | e
      · omega
      · rcases List.mem_cons.mp e with e | e
        · omega
        · exact h2 y (List.mem_cons_of_mem _ e)
/-- the greatest of a list, or d -/
def mostI (d : Int) (l : List Int) : Int := match l with
  | [] => d
  | x :: xs => xs.foldl max x
def rMaxDef (K : PySem.W.Frag) : List V → List V → Hp → VK → Prop := fun vs zs H Q => ∃ (a : Addr) (ns : List Int) (d : Int), vs = [V.ref a] ∧ zs = [V.int d] ∧ SqL K H a (ns.map V.int) ∧ Q (.int (mostI d ns)) H
theorem cr_maxDef {X : Cx} (hc : X.calm = true) (hu : X.A.units + 64 < cLine) : CallRK X (.builtin "max") [Str.ofString "default"] (rMaxDef X.K) := by
  intro pins s σ H xs zs us ws Q I r rz h
  obtain ⟨a, ns, d, rfl, rfl, hs, q⟩ := h
  obtain ⟨its, rv, ht, hz⟩ := I.list hs
  rw [Vals.ref1 r]
  obtain ⟨wv, rfl, rb⟩ := rz.one
  obtain ⟨t, rfl⟩ := rb
  have hi := rv.ints
  have hd : PyData.depthAll (ns.map PyData.int) ≤ 1 := by
    have e : ∀ l : List Int, PyData.depthAll (l.map PyData.int) ≤ 1 := by
      intro l
      induction l with
      | nil => decide
      | cons n l ih =>
        show max (PyData.depth (.int n)) (PyData.depthAll (l.map PyData.int)) ≤ 1
        have h1 : PyData.depth (.int n) = 0 := rfl
        rw [h1]; omega
    exact e ns
  refine PySem.W.max_list_default (xs := ns.map PyData.int) (as := []) (I.ok.hd hc) ht.isList (by simpa using hi.reads s.heap) ⟨?_, ?_⟩ (by omega) ?_ ?_
  · intro x hx y hy
    obtain ⟨i, _, rfl⟩ := List.mem_map.mp hx
    obtain ⟨j, _, rfl⟩ := List.mem_map.mp hy
    rfl
  · intro x hx
    obtain ⟨i, _, rfl⟩ := List.mem_map.mp hx
    intro e; cases e
  · intro e h' tk hk
    have e2 : ns = [] := List.map_eq_nil_iff.mp e
    subst e2
    exact ⟨.int _, H, I.kept hk, ⟨_, rfl⟩, q⟩
  · intro y ys i v h' tk bs e hv hr hk
    match ns, e with
    | n :: ns, e =>
      obtain ⟨rfl, rfl⟩ := List.cons.inj e
      rw [PySem.W.maxD_ints] at hr
      cases hr
      exact ⟨.int _, H, I.kept hk, ⟨_, rfl⟩, q⟩
end KX

namespace KX
open PySem PySem.Spec PyProof.Rows L2
section
variable {prog : Program} {w : World} {A : Around} {E : Value → Shared → Prop} {s : Shared}
/-- sorted(d.items(), reverse=b), from the list that is made on -/
theorem sorted_itemsR {r d : Addr} {es : Array DictEntry} {ep : Nat} {b : Bool} {Q : Value → Shared → Prop} (hh : A.handled = none) (hv : s.heap.IsItemsView r d) (hr : DT.Raw s.heap d es ep) (hz : es.size ≤ sizeLine)
    (k : Heap → Value → Int × Int)
    (hk : ∀ (h' : Heap) (as : List Addr), DT.Made es s.heap.objs.size h' as → ∀ v ∈ as.map Value.ref, ∀ o, Srt.IsPair (h'.push o) v (k h' v).1 (k h' v).2)
    (h : ∀ (h' : Heap) (tk : Nat) (as : List Addr) (out : List Value), (∀ (b : Addr) (o : Obj), s.heap.get? b = some o → h'.get? b = some o) → s.heap.objs.size < h'.objs.size → as.length = es.size → DT.Made es s.heap.objs.size h' as →
      SrtO.Srtd (fun v u => SrtO.lexB (k h' v) (k h' u)) out → SrtO.Stb (fun v u => SrtO.lexB (k h' v) (k h' u)) out (if b = true then (as.map Value.ref).reverse else as.map Value.ref) →
      Q (.ref h'.objs.size) { heap := sortedHeap (h'.push (seqObj "list" (as.map Value.ref).toArray 0)) h'.objs.size (as.map Value.ref) (if b = true then out.toArray.reverse else out.toArray), gens := s.gens, drawn := s.drawn, toks := tk, os := s.os }) :
    wpAny (model prog w) A (call (.builtin "sorted") [.ref r] [(Str.ofString "reverse", .bool b)]) Q E s := by
  refine call_function_entry_kw kind_sorted plain_sorted entry_sorted (args_sorted_rev _ _) ?_
  unfold Builtin.«sorted»
  refine wpAny_bind (m := checkCount "sorted" 1 1 _) (wpAny_pure ?_)
  apply wpAny_bind
  refine DT.collectI (A := A.in1) hh hv hr hz fun h' tk as k1 k2 k3 M => ?_
  apply wpAny_bind
  have hz' : (as.map Value.ref).length ≤ sizeLine := by rw [List.length_map, k3]; exact hz
  refine wpAny_newList ?_ (hsz := hz')
  have ho : (h'.push (seqObj "list" (as.map Value.ref).toArray 0)).get? h'.objs.size = some (seqObj "list" (as.map Value.ref).toArray 0) := Heap.get?_push_size _ rfl
  apply wpAny_bind
  apply wpAny_holding
  refine wpAny_call_entry_kw slot_list_sort ⟨_, ho, rfl⟩ entry_list_sort ?_ (args_list_sort_rev _ _)
  refine SrtR.list_sort_ordR (SrtO.swo_lex (k h')) ho hz' (fun h2 => SrtO.pairs_sortableO (by omega) (fun v hv => hk h' as M v hv _) (fun o e => ?_)) fun out h1 h2 => ⟨_, rfl, ?_⟩
  · rw [show _ = some _ from ho] at e
    cases e
    show Value.type "list" ≠ Value.type "tuple"
    decide
  · exact wpAny_pure ⟨_, rfl, h h' tk as out k1 k2 k3 M h1 h2⟩
end
/-! d.items() of a dict with whole numbers; sorted of it -/
theorem mt_itemsK {X : Cx} : MtR X "dict.items" (fun x xs H Q => ∃ a kvs, x = V.ref a ∧ xs = [] ∧ H a = some (HO.dK kvs) ∧ ∀ (p : Addr), H p = none → Q (V.ref p) (upd H p (DX.itemsO p a))) := by
  intro pins s σ H x xs v us Q I rx rxs h
  obtain ⟨a, kvs, rfl, rfl, ha, q⟩ := h
  cases rx
  cases rxs
  obtain ⟨x1, low, vs, kv, o, es, ep, hg, hx, hd, hks, hp, nd⟩ := I.hok a _ ha
  refine DT.callItems low ⟨o, hg, hx, hd⟩ ?_
  refine ⟨.ref _, _, I.laid (t' := s.toks) (o := DX.itemsO s.heap.objs.size a) (fun b ob q => Heap.get?_push_of_some _ q) (Nat.le_refl _) (DX.itemsO_ok (Heap.get?_push_size _ rfl)), rfl, q _ (I.hok.fresh (Nat.le_refl _))⟩
/-- the pairs of numbers that stand at these values -/
def pairAt (h : Heap) (v : Value) : Int × Int := match v with
  | .ref a => match h.get? a with
    | some o => match o.data with
      | .seq its _ => match its[0]?, its[1]? with
        | some (Value.int i _), some (Value.int j _) => (i, j)
        | _, _ => (0, 0)
      | _ => (0, 0)
    | none => (0, 0)
  | _ => (0, 0)
theorem ents_of {P : Program} {w : World} : ∀ (ps : List (Int × Int)) (vs : List (Key × Value)) (es : List DictEntry), KV (ps.map fun q => ((Sum.inl q.1 : Key), V.int q.2)) vs → PySem.Pairs (mixKind P w) es vs →
    es.length = ps.length ∧ ∀ (j : Nat) (e : DictEntry), es[j]? = some e → ∃ q t u, ps[j]? = some q ∧ e.key = Value.int q.1 t ∧ e.val = Value.int q.2 u
  | [], _, _, .nil, .nil => ⟨rfl, fun j e h => by simp at h⟩
  | q :: ps, (k, v) :: vs, e :: es, .cons hq tl, .cons h1 h2 h3 => by
    obtain ⟨l, r⟩ := ents_of ps vs es tl h3
    refine ⟨by simp [l], fun j e' h => ?_⟩
    cases j with
    | zero =>
      have e2 : e = e' := by simpa using h
      subst e2
      obtain ⟨hk, t, hv⟩ := hq
      change Sum.inl q.1 = k at hk
      subst hk
      change Value.isInt q.1 e.key = true at h1
      refine ⟨q, ?_⟩
      cases hek : e.key with
      | int i tk =>
        rw [hek] at h1
        have : i = q.1 := by simpa [Value.isInt] using h1
        exact ⟨tk, t, rfl, by rw [this], by rw [h2]; exact hv⟩
      | _ => rw [hek] at h1; cases h1
    | succ j => exact r j e' (by simpa using h)
def rSortItR (b : Bool) : List V → List V → Hp → VK → Prop := fun vs zs H Q => ∃ (p a : Addr) (ps : List (Int × Int)), vs = [V.ref p] ∧ zs = [V.bl b] ∧ H p = some (DX.itemsO p a) ∧ H a = some (.dK (ps.map fun q => (Sum.inl q.1, V.int q.2))) ∧
  ∀ (H' : Hp) (l : Addr) (ts : List Addr) (qs : List (Int × Int)), Same H H' → H l = none → H' l = some (.lst (ts.map V.ref)) → qs.Perm ps → Paired (fun t q => H t = none ∧ H' t = some (.tup [.int q.1, .int q.2])) ts qs →
    (if b = true then qs.Pairwise (fun x y => SrtO.lexB x y = false) else qs.Pairwise (fun x y => SrtO.lexB y x = false)) → Q (.ref l) H'
theorem cr_sortedItR {X : Cx} (hc : X.calm = true) {b : Bool} : CallRK X (.builtin "sorted") [Str.ofString "reverse"] (rSortItR b) := by
  intro pins s σ H xs zs us ws Q I r rz h
  obtain ⟨p, a, ps, rfl, rfl, hp, ha, q⟩ := h
  rw [Vals.ref1 r]
  obtain ⟨wv, rfl, rb⟩ := rz.one
  cases rb
  obtain ⟨x1, low, vs, kv, o, es, ep, hg, hx, hd, hks, hpr, nd⟩ := I.hok a _ ha
  have hv : s.heap.IsItemsView p a := by
    have z := I.hok p _ hp
    first | exact z | exact z.2 | exact z.1
  obtain ⟨hl, hent0⟩ := ents_of ps vs es.toList kv hpr
  have hen : es.size ≤ sizeLine := by
    rw [List.length_map] at x1
    have : es.toList.length = es.size := Array.length_toList
    omega
  have hent : ∀ j : Nat, ∀ e, es[j]? = some e → ∃ q t u, ps[j]? = some q ∧ e.key = .int q.1 t ∧ e.val = .int q.2 u := fun j e he => hent0 j e (by rw [Array.getElem?_toList]; exact he)
  refine sorted_itemsR (A := X.A) (I.ok.hd hc) hv ⟨o, hg, hx, hd⟩ hen pairAt (fun h' as M v hv o => ?_) fun h' tk as out k1 k2 k3 M s1 s2 => ?_
  · obtain ⟨t, ht, rfl⟩ := List.mem_map.mp hv
    obtain ⟨j, hj, e⟩ := List.getElem_of_mem ht
    obtain ⟨e, he, hh⟩ := M.pairs j t (by rw [List.getElem?_eq_getElem hj, e])
    obtain ⟨q, t1, t2, hq, e1, e2⟩ := hent j e he
    rw [e1, e2] at hh
    refine ⟨t, _, t1, t2, 0, rfl, Heap.get?_push_of_some _ hh, rfl, ?_⟩
    have : pairAt h' (.ref t) = q := by
      simp only [pairAt, hh]
      rfl
    rw [this]
  · have hpa : ∀ (j : Nat) (t : Addr), as[j]? = some t → ∃ q t1 t2, ps[j]? = some q ∧ pairAt h' (.ref t) = q ∧ h'.get? t = some { cls := .type "tuple", data := .seq #[.int q.1 t1, .int q.2 t2] } := by
      intro j t e
      obtain ⟨e, he, hh⟩ := M.pairs j t e
      obtain ⟨q, t1, t2, hq, e1, e2⟩ := hent j e he
      rw [e1, e2] at hh
      exact ⟨q, t1, t2, hq, by simp only [pairAt, hh]; rfl, hh⟩
    have hps : as.map (fun t => pairAt h' (.ref t)) = ps := by
      have l2 : as.length = ps.length := by rw [k3, ← hl]; simp
      refine List.ext_getElem (by simpa using l2) fun j h1 h2 => ?_
      have h1' : j < as.length := by simpa using h1
      obtain ⟨q, t1, t2, hq, e, _⟩ := hpa j as[j] (List.getElem?_eq_getElem h1')
      rw [List.getElem?_eq_getElem h2] at hq
      rw [List.getElem_map, e]
      exact (Option.some.inj hq).symm
    let fin : List Value := if b = true then out.reverse else out
    have hfin : (if b = true then out.toArray.reverse else out.toArray) = fin.toArray := by
      show _ = (if b = true then out.reverse else out).toArray
      cases b <;> simp
    have hperm : fin.Perm (as.map Value.ref) := by
      show (if b = true then out.reverse else out).Perm _
      have hp := s2.perm
      cases b
      · simpa using hp
      · simp only [if_true] at hp ⊢
        exact (List.reverse_perm out).trans (hp.trans (List.reverse_perm _))
    let ts : List Addr := fin.map fun v => match v with | .ref a => a | _ => 0
    have hts : ts.map Value.ref = fin := by
      show (fin.map _).map _ = fin
      rw [List.map_map]
      refine (List.map_congr_left fun v hv => ?_).trans (List.map_id fin)
      obtain ⟨t, _, rfl⟩ := List.mem_map.mp (hperm.mem_iff.mp hv)
      rfl
    have hpt : ts.Perm as := by
      have := hperm.map (fun v => match v with | Value.ref a => a | _ => (0 : Addr))
      rw [List.map_map] at this
      have e : (as.map ((fun v => match v with | Value.ref a => a | _ => (0 : Addr)) ∘ Value.ref)) = as := (List.map_congr_left fun v hv => rfl).trans (List.map_id as)
      rw [e] at this
      exact this
    let qs := ts.map fun t => pairAt h' (.ref t)
    have hqp : qs.Perm ps := by rw [← hps]; exact hpt.map _
    have hord : if b = true then qs.Pairwise (fun x y => SrtO.lexB x y = false) else qs.Pairwise (fun x y => SrtO.lexB y x = false) := by
      have e : qs = fin.map (pairAt h') := by
        have e0 : fin.map (pairAt h') = (ts.map Value.ref).map (pairAt h') := by rw [hts]
        rw [e0, List.map_map]; rfl
      rw [e]
      show if b = true then ((if b = true then out.reverse else out).map (pairAt h')).Pairwise _ else ((if b = true then out.reverse else out).map (pairAt h')).Pairwise _
      cases b
      · simp only [Bool.false_eq_true, if_false]
        exact List.pairwise_map.mpr s1
      · simp only [if_true]
        exact List.pairwise_map.mpr (List.pairwise_reverse.mpr s1)
    rw [hfin]
    have hnew : (h'.push (seqObj "list" (as.map Value.ref).toArray 0)).get? h'.objs.size = some (seqObj "list" (as.map Value.ref).toArray 0) := Heap.get?_push_size _ rfl
    obtain ⟨ep2, hat⟩ := sortedHeap_at (out := fin.toArray) hnew
    have hold : ∀ (b : Addr) (o : Obj), h'.get? b = some o → (sortedHeap (h'.push (seqObj "list" (as.map Value.ref).toArray 0)) h'.objs.size (as.map Value.ref) fin.toArray).get? b = some o := fun b o e => by
      have lt : b < h'.objs.size := by
        rcases Nat.lt_or_ge b h'.objs.size with c | c
        · exact c
        · have e3 : h'.objs[b]? = none := Array.getElem?_eq_none c
          unfold Heap.get? at e
          rw [e3] at e
          cases e
      rw [sortedHeap_old (Nat.ne_of_lt lt) (by show b < (h'.objs.push _).size; rw [Array.size_push]; exact Nat.lt_succ_of_lt lt)]
      exact Heap.get?_push_of_some _ e
    have lts : ts.length = as.length := hpt.length_eq
    have I5 := I.laid (t' := tk) (a := h'.objs.size) (o := .lst (ts.map V.ref)) (fun b o e => hold b o (k1 b o e)) (Nat.le_of_lt k2) ⟨by rw [List.length_map, lts, k3]; exact hen, fin, ep2, by rw [← hts]; exact LiI.vals_refs ts, hat⟩
    have nf : H h'.objs.size = none := I.hok.fresh (Nat.le_of_lt k2)
    obtain ⟨H2, I6, e6, t6⟩ := DX.takeT (P := fun t vs => vs = [V.int (pairAt h' (.ref t)).1, V.int (pairAt h' (.ref t)).2]) I as _ I5 (M.rise.imp fun h => Nat.ne_of_lt h) (fun t ht => by
      obtain ⟨j, hj, e⟩ := List.getElem_of_mem ht
      obtain ⟨q, t1, t2, hq, e1, hh⟩ := hpa j t (by rw [List.getElem?_eq_getElem hj, e])
      have lo := M.above t ht
      have hi : t < h'.objs.size := M.there ht
      refine ⟨Nat.le_of_lt lo, by rw [upd_ne (Nat.ne_of_lt hi)]; exact I.hok.fresh (Nat.le_of_lt lo), _, rfl, fun H2 => ?_⟩
      rw [e1]
      exact ⟨by show 2 ≤ _; decide +kernel, _, .cons ⟨t1, rfl⟩ (.cons ⟨t2, rfl⟩ .nil), ⟨_, hold _ _ hh, rfl, 0, rfl⟩⟩)
    refine ⟨.ref _, H2, I6, rfl, q H2 _ ts qs (fun b o e => e6 b o (Same.fresh nf b o e)) nf (e6 _ _ upd_same) hqp ?_ hord⟩
    have hall : ∀ l : List Addr, (∀ t ∈ l, t ∈ as) → Paired (fun t q => H t = none ∧ H2 t = some (.tup [.int q.1, .int q.2])) l (l.map fun t => pairAt h' (.ref t)) := by
      intro l
      induction l with
      | nil => exact fun _ => .nil
      | cons t l ih =>
        intro hm
        have ht := hm t (List.mem_cons_self ..)
        obtain ⟨vs, ev, e⟩ := t6 t ht
        subst ev
        exact .cons ⟨I.hok.fresh (Nat.le_of_lt (M.above t ht)), e⟩ (ih fun t ht => hm t (List.mem_cons_of_mem _ ht))
    exact hall ts fun t ht => hpt.mem_iff.mp ht
/-! with K named -/
theorem cr_sortedRevTK {X : Cx} {K : PySem.W.Frag} {b : Bool} (hK : X.K = K := by rfl) : CallRK X (.builtin "sorted") [Str.ofString "reverse"] (rSortRevT K b) := by subst hK; exact cr_sortedRevT
theorem cr_maxDefK {X : Cx} {K : PySem.W.Frag} (hc : X.calm = true) (hu : X.A.units + 64 < cLine) (hK : X.K = K := by rfl) : CallRK X (.builtin "max") [Str.ofString "default"] (rMaxDef K) := by subst hK; exact cr_maxDef hc hu
theorem get_listK {X : Cx} {K : PySem.W.Frag} (hK : X.K = K := by rfl) : PGet X (rGetL K) := by subst hK; exact get_list
end KX

namespace KX
open PySem PySem.Spec PyProof.Rows L2
/-! ### sum of a tuple of whole numbers -/
def rSumT (K : PySem.W.Frag) : List V → Hp → VK → Prop := fun vs H Q => ∃ (a : Addr) (ns : List Int), vs = [V.ref a] ∧ SqT K H a (ns.map V.int) ∧ Q (.int ns.sum) H
theorem cr_sumT {X : Cx} (hc : X.calm = true) : CallR X (.builtin "sum") (rSumT X.K) := by
  intro pins s σ H vs us Q I r h
  obtain ⟨a, ns, rfl, hs, q⟩ := h
  obtain ⟨its, rv, ht, _⟩ := I.tuple hs
  rw [Vals.ref1 r]
  have hi := rv.ints
  obtain ⟨o, ho, hc', n, hd⟩ := ht
  have hl : s.heap.IsTuple a its.toArray := ⟨o, ho, hc', n, hd⟩
  obtain ⟨xs, hx⟩ := hi.allInts.items
  have hn : PySem.numsOf its.toArray.toList = ns := by rw [show its.toArray.toList = its from rfl, hi.numsOf]
  rw [hx] at hl hn
  rw [nums_intItems] at hn
  refine PySem.W.ktm_sumG (I.ok.hd hc) hl fun h' tk t' hk => ?_
  rw [preSum_eq, List.take_of_length_le (by simp), hn]
  exact ⟨.int _, H, I.kept hk, ⟨_, rfl⟩, q⟩
theorem cr_sumTK {X : Cx} {K : PySem.W.Frag} (hc : X.calm = true) (hK : X.K = K := by rfl) : CallR X (.builtin "sum") (rSumT K) := by subst hK; exact cr_sumT hc
theorem rd_sumT {K : PySem.W.Frag} {H : Hp} {Q : VK} {p : Addr} {ns : List Int} (ha : Tup H p (ns.map V.int)) (h : Q (.int ns.sum) H) : rSumT K [.ref p] H Q := ⟨p, ns, rfl, ha.sq, h⟩
/-! ### tuples whose objects are known -/
theorem pe_tupleFK {X : Cx} {K : PySem.W.Frag} {a : Expr} {ta : TE} {p pos : Pos} (hg : Gl X "tuple") (hm : X.mg "tuple" = none) (ha : PE X a ta)
    (na : starEach [a] X.env = (false, eval a X.env) :: starEach [] X.env := by rfl) (hK : X.K = K := by rfl) :
    PE X (.Call (.Name "tuple" p) [a] [] pos) (tThen ta (kTupF K)) := by subst hK; exact pe_tupleF hg hm ha na
theorem rd_tupF {K : PySem.W.Frag} {H : Hp} {Q : VK} {p : Addr} {xs : List V} (ha : H p = some (.lst xs)) (h : ∀ H' q, Same H H' → H q = none → TupF H' q xs → Q (.ref q) H') : kTupF K (.ref p) H Q :=
  ⟨p, xs, rfl, SqL.of ha, fun q o n h1 h2 => h _ q (Same.fresh n) n ⟨o, upd_same, h1, h2⟩⟩
def tTupF (t : TA) : TE := fun σ H Q => t σ H fun xs H1 => xs.length ≤ sizeLine ∧ ∀ H' p, Same H1 H' → TupF H' p xs → Q (.ref p) H'
theorem pe_tupF {X : Cx} {es : List Expr} {t : TA} {pos : Pos} {x1} (h : PA X es t) : PE X (.Tuple es x1 pos) (tTupF t) := by
  refine ⟨fun pins s σ H Q I hq => ?_⟩
  refine wpAny_Tuple_spliced (thn (h.run pos pins s σ H _ I hq) fun us s1 ⟨xs, H1, I1, r, z, q⟩ => ⟨by rw [← r.length]; exact z, ?_⟩)
  have hf : H1 s1.heap.objs.size = none := I1.hok.fresh (Nat.le_refl _)
  refine ⟨.ref s1.heap.objs.size, upd H1 s1.heap.objs.size (.frz { cls := .type "tuple", data := .seq us.toArray } (.tup xs)), I1.laid (t' := s1.toks) (fun b u e => Heap.get?_push_of_some _ e) (Nat.le_refl _) ?_, rfl, q _ _ (Same.fresh hf) ⟨_, upd_same, rfl, rfl⟩⟩
  exact ⟨Heap.get?_push_size _ rfl, z, us, r, ⟨_, Heap.get?_push_size _ rfl, rfl, _, rfl⟩⟩
theorem rd_tupFd {t : TA} {σ : L2.St} {H : Hp} {Q : VK} (h : t σ H fun xs H1 => xs.length ≤ sizeLine ∧ ∀ H' p, Same H1 H' → TupF H' p xs → Q (.ref p) H') : tTupF t σ H Q := h
/-- (v,) * k of any small number, the object known -/
def rRepF : R2 := fun x y H Q => ∃ (l : Addr) (k : Nat) (v : V), x = .ref l ∧ y = .int k ∧ TupF H l [v] ∧ k ≤ 1000 ∧ ∀ H' a, Same H H' → TupF H' a (List.replicate k v) → Q (.ref a) H'
theorem op_repF {X : Cx} : OpR X (binaryOp .Mult) rRepF := by
  intro pins s σ H x y v u Q I rx ry h
  obtain ⟨l, k, w, e1, e2, hx, hk, hQ⟩ := h
  subst e1
  subst e2
  cases rx
  obtain ⟨t, rfl⟩ := ry
  obtain ⟨its, r, ht, hz⟩ := I.tuple hx.tup.sq
  have hl : its.length = 1 := r.length.symm
  obtain ⟨o, ho, hc, n, hd⟩ := ht
  obtain ⟨oc, od, oda, osl⟩ := o
  cases hc
  cases hd
  have ht : IsTup s.heap l its.toArray := ⟨_, ho, rfl, n, rfl⟩
  have hne : its.toArray.isEmpty = false := by
    cases its with
    | nil => simp at hl
    | cons a b => rfl
  by_cases c2 : 2 ≤ k
  · have hsz0 : its.toArray.size = 1 := by rw [List.size_toArray, hl]
    have flen : (List.replicate k its).flatten.length ≤ sizeLine := by
      rw [PyProof.Rows.lm_len_rep_flat, hl, sizeLine_eq]; omega
    have en : ((k : Nat) : Int).toNat = k := by omega
    have c0 : (decide (((k : Nat) : Int) < -(2 ^ 63)) || decide (((k : Nat) : Int) ≥ 2 ^ 63)) = false := by
      rw [decide_eq_false (by omega), decide_eq_false (by omega)] <;> rfl
    have c1 : (its.toArray.isEmpty || ((k : Nat) : Int) == 1) = false := by
      rw [hne, Bool.false_or]
      exact beq_eq_false_iff_ne.mpr (by omega)
    have c3 : (decide (((k : Nat) : Int) ≤ 0) || its.toArray.isEmpty) = false := by
      rw [hne, Bool.or_false]
      exact decide_eq_false (by omega)
    have c4 : Builtin.Tuple.tupleTooMany (((its.toArray.size : Nat) : Int) * ((k : Nat) : Int)) = false := by
      unfold Builtin.Tuple.tupleTooMany
      rw [sizeLine_eq, hsz0]
      exact decide_eq_false (by omega)
    refine wpAny_binaryOp_repeat_ref (T := "tuple") (U := "int") (by decide) ⟨_, ho, rfl⟩ (fun s' => typeIs_int s' _ t) noFill_tuple_mul F.fills_int_mul F.slot_int_rmul repeat_tuple F.slot_int_index.lookup
      (call_meets F.slot_int_rmul (typeIs_int s _ t) F.entry_int_rmul (F.args_int_rmul_2 _ _) (int_rmul_tuple _ t l its.toArray n od osl)
        ⟨ho, rfl, ⟨_, ho, rfl⟩, call_meets F.slot_tuple_mul ⟨_, ho, rfl⟩ F.entry_tuple_mul (F.args_tuple_mul_2 _ _) (tuple_mulW l its.toArray n od osl _ t c0 c1 c3 (by rw [hsz0]; omega) c4 (by rw [size_rep, List.size_toArray, en]; exact flen)) ⟨ho, ?_⟩⟩)
    rw [size_rep, en]
    have hf : H s.heap.objs.size = none := I.hok.fresh (Nat.le_refl _)
    refine ⟨.ref s.heap.objs.size, _, I.laid (t' := s.toks) (o := .frz { cls := .type "tuple", data := .seq (List.replicate k its).flatten.toArray } (.tup (List.replicate k [w]).flatten)) (fun b ob q => Heap.get?_push_of_some _ q) (Nat.le_refl _) ?_, rfl, hQ _ _ (Same.fresh hf) ⟨_, by rw [upd_same, flat_one], rfl, rfl⟩⟩
    exact ⟨Heap.get?_push_size _ rfl, by rw [flat_one, List.length_replicate, sizeLine_eq]; omega, _, r.rep k, IsTup.new _ _⟩
  · refine wpAny_binaryOp_repeat_ref (T := "tuple") (U := "int") (id := "tuple.__mul__") (idr := "int.__rmul__") (ix := .builtin "int.__index__") (by decide) ht.typeIs (fun s' => rfl) L2.noFill_tuple_mul (by with_unfolding_all rfl) F.slot_int_rmul L2.repeat_tuple (by with_unfolding_all rfl) ?_
    refine call_meets F.slot_int_rmul rfl F.entry_int_rmul (by with_unfolding_all rfl) (L2.int_rmul_tuple _ t l its.toArray n od osl) ⟨ho, rfl, ht.typeIs, ?_⟩
    refine wpAny_call_entry F.slot_tuple_mul ht.typeIs F.entry_tuple_mul ?_ (F.args_tuple_mul_2 _ _)
    have hk2 : k = 1 ∨ k = 0 := by omega
    rcases hk2 with rfl | rfl
    · show wpAny _ _ (asIndex (.int 1 t) >>= _) _ _ s
      refine wpAny_bind (m := asIndex (.int 1 t)) (wpAny_bind (wpAny_pure (wpAny_pure ?_)))
      show wpAny _ _ (Builtin.Tuple.tupleItemsOf (.ref l) >>= _) _ _ s
      refine wpAny_bind (tupleItemsOf_ ht ?_)
      show wpAny _ _ (if (its.toArray.isEmpty || (1 : Int) == 1) = true then _ else _) _ _ s
      rw [if_pos (by rw [hne]; decide)]
      refine wpAny_bind (m := Builtin.Tuple.tupleIsExact (.ref l)) (wpAny_bind (wpAny_typeOf ht.typeIs (wpAny_pure ?_)))
      rw [if_pos (by decide)]
      have fin := hQ H l (Same.refl H) hx
      first
        | exact wpAny_bind (wpAny_rule (wpAny_pure ⟨_, rfl, .ref l, H, I, rfl, fin⟩))
        | exact wpAny_bind (wpAny_pure (wpAny_pure ⟨_, rfl, .ref l, H, I, rfl, fin⟩))
        | exact wpAny_pure ⟨_, rfl, .ref l, H, I, rfl, fin⟩
    · show wpAny _ _ (asIndex (.int 0 t) >>= _) _ _ s
      refine wpAny_bind (m := asIndex (.int 0 t)) (wpAny_bind (wpAny_pure (wpAny_pure ?_)))
      show wpAny _ _ (Builtin.Tuple.tupleItemsOf (.ref l) >>= _) _ _ s
      refine wpAny_bind (tupleItemsOf_ ht ?_)
      show wpAny _ _ (if (its.toArray.isEmpty || (0 : Int) == 1) = true then _ else _) _ _ s
      rw [if_neg (by rw [hne]; decide)]
      show wpAny _ _ (if (decide ((0 : Int) ≤ 0) || its.toArray.isEmpty) = true then _ else _) _ _ s
      rw [if_pos (by rw [hne]; decide)]
      have hf : H s.heap.objs.size = none := I.hok.fresh (Nat.le_refl _)
      have I5 : Inv X pins σ (upd H s.heap.objs.size (.frz { cls := .type "tuple", data := .seq #[] } (.tup []))) { s with heap := s.heap.push { cls := .type "tuple", data := .seq #[] } } :=
        I.laid (t' := s.toks) (o := .frz { cls := .type "tuple", data := .seq #[] } (.tup [])) (fun b ob q => Heap.get?_push_of_some _ q) (Nat.le_refl _) ⟨Heap.get?_push_size _ rfl, by decide +kernel, _, .nil, IsTup.new _ _⟩
      refine wpAny_bind (m := Builtin.Tuple.tupleExact _) (wpAny_newObj_type ?_ (by show (0 : Nat) ≤ _; exact Nat.zero_le _))
      refine wpAny_pure ⟨_, rfl, .ref _, _, I5, rfl, hQ _ _ (Same.fresh hf) ⟨_, upd_same, rfl, rfl⟩⟩
/-! ### methods of a tuple whose object is known, of a dict of whole numbers -/
theorem mt_tcountK {X : Cx} {K : PySem.W.Frag} (hK : X.K = K := by rfl) : MtR X "tuple.count" (rCntT K) := by subst hK; exact mt_tcount
theorem rd_bmF {r : V → List V → Hp → VK → Prop} {to : TE} {t : TA} {σ : L2.St} {H : Hp} {Q : VK} (h : to σ H fun x H1 => (∃ a xs, x = .ref a ∧ TupF H1 a xs) ∧ t σ H1 fun ys H2 => r x ys H2 Q) : tBMF r to t σ H Q := h
theorem pe_bm0T {X : Cx} {K : PySem.W.Frag} {T id : String} {name : Str} {r : V → List V → Hp → VK → Prop} {o : Expr} {to : TE} {apos cpos : Pos} (pa : PlainAttrs T) (slot : Slot T name id) (hty : typeOf (.builtin id) = pure (.type "method_descriptor")) (hm : MtR X id r) (ho : PE X o to)
    (hbase : attributeBase o name X.env (eval o X.env) = eval o X.env := by rfl) (hline : (apos.endLine == cpos.line) = true := by rfl) (hK : X.K = K := by rfl) : PE X (.Call (.Attribute o name apos) [] [] cpos) (tBM0 K T r to) := by
  subst hK; exact pe_bm0 pa slot hty hm ho hbase hline
theorem rd_tyD {K : PySem.W.Frag} {p : Addr} {H : Hp} {kvs : List (Key × V)} {R : Prop} (ha : H p = some (.dK kvs)) (h : R) : tyV K "dict" (.ref p) H ∧ R := ⟨.inr (.inr (.inl ⟨rfl, .inl ⟨kvs, ha⟩⟩)), h⟩
end KX

namespace KX
open PySem PySem.Spec PyProof.Rows L2
/-! ### a try with several clauses, each with a name or without -/
/-- caught: what is known while the clauses are asked one by one -/
structure Caught (X : Cx) (pins : List (Addr × Obj)) (σ : L2.St) (H : Hp) (cls : Value) (d : Option Addr) (a : Addr) (B : Heap) (sI s : Shared) : Prop where
  inv : Inv X pins σ H sI
  nb : ∀ b o, sI.heap.get? b = some o → b ∉ frs X.stack → B.get? b = some o
  up : sI.heap.UpToSlots s.heap
  fly : HandSPX.FlyingZ B (X.env :: X.outer) a (Zc cls d) s.heap
  free : H a = none
  os : s.os = sI.os
  bare : AllBare s.gens
theorem Caught.again {X : Cx} {pins : List (Addr × Obj)} {σ : L2.St} {H : Hp} {cls : Value} {d : Option Addr} {a : Addr} {B h' : Heap} {sI s : Shared} (c : Caught X pins σ H cls d a B sI s)
    (f : HandSPX.FlyingZ B (X.env :: X.outer) a (Zc cls d) h') (u : s.heap.UpToSlots h') : Caught X pins σ H cls d a B sI { s with heap := h' } :=
  ⟨c.inv, c.nb, c.up.trans u, f, c.free, c.os, c.bare⟩
theorem Caught.held {X : Cx} {pins : List (Addr × Obj)} {σ : L2.St} {H : Hp} {cls : Value} {d : Option Addr} {a : Addr} {B : Heap} {sI s : Shared} (c : Caught X pins σ H cls d a B sI s) (hf : X.env.frame = some X.env.locals) :
    ∃ oe, s.heap.get? a = some oe ∧ Zc cls d oe ∧ (∃ vs, oe.data = .fields vs) ∧ Inv (X.suite a ((a, oe) :: (X.pn ++ pins))) [] σ H s := by
  obtain ⟨oe, vs, e1, e2, e3⟩ := c.fly.there
  have out : a ∉ frs (X.env :: X.outer) := by
    intro m
    obtain ⟨_, o, e4, nf⟩ := c.fly.2.2.1.mem m
    rw [e1] at e4
    exact nf _ (by rw [← Option.some.inj e4]; exact e3)
  have n1 : a ≠ X.env.locals := by
    intro z
    refine out (List.mem_filterMap.mpr ⟨X.env, List.mem_cons_self, ?_⟩)
    rw [hf, z]
  have n2 : a ∉ X.fs := by
    intro m
    obtain ⟨e, he, q⟩ := List.mem_filterMap.mp m
    exact out (List.mem_filterMap.mpr ⟨e, List.mem_cons_of_mem _ he, q⟩)
  exact ⟨oe, e1, e2, ⟨vs, e3⟩, (c.inv.landed c.nb c.fly.1 c.up c.os c.bare).suite e1 e3 c.free n1 n2⟩
/-- the clauses, asked one by one, bring about what W wishes -/
def Hears (X : Cx) (hds : List ExceptHandler) (W : Ends → WX) : Prop :=
  ∀ (pins : List (Addr × Obj)) (σ : L2.St) (H : Hp) (cls : Value) (d : Option Addr) (a : Addr) (B : Heap) (sI s : Shared) (D : Ends), Caught X pins σ H cls d a B sI s → W D cls d σ H →
    wpAny (model X.prog X.w) X.A (handleBy (.ref a) X.env hds) (SP X pins D) X.xe s
theorem hears_nil {X : Cx} {Wout : WX} (hs : X.stack = X.env :: X.outer) (hf : X.env.frame = some X.env.locals) (tk : Takes X Wout) : Hears X [] fun _ => Wout := by
  intro pins σ H cls d a B sI s D c w
  refine wpAny_handleBy_nil ?_
  obtain ⟨_, _, _, oe, vs, T, oT, ts', he, hz, hd, h1, hr⟩ := id c.fly
  unfold PySem.passOn
  refine wpAny_bind (wpAny_field he hd h1 ?_)
  have ne : ¬ ((Value.ref T == Value.none) = true) := by simp
  rw [if_neg ne]
  have on : wpAny (model X.prog X.w) X.A (setFlight (.ref a) X.env.frame) (fun _ s' => wpAny (model X.prog X.w) X.A (throw (.ref a) : Sem Flow) (SP X pins D) X.xe s') X.xe s := by
    rw [hf]
    refine HandSPX.setFlight_upZ c.fly fun h' hh up => wpAny_throw (tk _ _ ?_)
    refine ⟨a, B, sI, pins, σ, H, cls, d, rfl, c.inv, c.nb, c.up.trans up, ?_, c.free, c.os, c.bare, w⟩
    rw [hs]
    exact .inr (.inr hh)
  first
    | exact wpAny_bind (wpAny_pure (wpAny_bind on))
    | exact wpAny_bind on
/-- which class a clause names -/
theorem clause_asked {X : Cx} {x : Str} {np : Pos} {c : Value} {a : Addr} {q : Addr × Obj} {l : List (Addr × Obj)} {σ : L2.St} {H : Hp} {s : Shared} {Q : Value → Shared → Prop} {E : Value → Shared → Prop} (hc : Names X x c) (S : Inv (X.suite a (q :: l)) [] σ H s) (h : Q c s) :
    wpAny (model X.prog X.w) (X.A.mark (some (.ref a))) (eval (.Name x np) X.env) Q E s := by
  obtain ⟨g, db, m | ⟨m, v, nn⟩⟩ := hc
  · exact ld_glob (X := X.suite a (q :: l)) S g m h db
  · exact ld_blt (X := X.suite a (q :: l)) S g m v h nn db
/-- what 'except x as n' wishes: n's slot is i; behind it come W's -/
def wNamed (K : PySem.W.Frag) (c : Value) (i : Nat) (ts : Addr → Value → Option Addr → TS) (W : Ends → WX) : Ends → WX := fun D cls d σ H =>
  ∃ b, PySem.W.exmOne K cls c = some b ∧
    (b = true → ∀ a, H a = none → ts a cls d ⟨fun σ' => D.nx (σ'.set i none), D.rt, fun σ' => D.bk (σ'.set i none), fun σ' => D.ct (σ'.set i none)⟩ (σ.set i (some (.ref a))) H) ∧ (b = false → W D cls d σ H)
/-- what 'except x' wishes -/
def wPlain (K : PySem.W.Frag) (c : Value) (ts : Addr → Value → Option Addr → TS) (W : Ends → WX) : Ends → WX := fun D cls d σ H =>
  ∃ b, PySem.W.exmOne K cls c = some b ∧ (b = true → ∀ a, H a = none → ts a cls d D σ H) ∧ (b = false → W D cls d σ H)
section
variable {X : Cx} {x n : Str} {c : Value} {i : Nat} {suite : List Stmt} {b₀ : Stmt} {np pos' : Pos} {ts : Addr → Value → Option Addr → TS} {W : Ends → WX} {hds : List ExceptHandler}
theorem hears_named (hf : X.env.frame = some X.env.locals) (hN : X.N.Nodup) (hi : X.N[i]? = some n) (hln : X.env.kindOf n = some .local) (hc : Names X x c)
    (hsu : ∀ (a : Addr) (oe : Obj) (cls : Value) (d : Option Addr) (pn : List (Addr × Obj)), Zc cls d oe → (∃ vs, oe.data = .fields vs) → PSs (X.suite a ((a, oe) :: pn)) (b₀ :: suite) (ts a cls d)) (r : Hears X hds W) :
    Hears X (.ExceptHandler (some (.Name x np)) (some n) (b₀ :: suite) pos' :: hds) (wNamed X.K c i ts W) := by
  intro pins σ H cls d a B sI s D C w
  obtain ⟨b, e, yes, no⟩ := w
  obtain ⟨oe, g, z, dd, S⟩ := C.held hf
  refine wpAny_handleBy_cons (codeAny_handlers_test (clause_asked hc S ?_)) (by intro y; cases y)
  have ty : PySem.W.Looks (model X.prog X.w) s.heap (typeOf (.ref a)) cls := fun A Q E s' k y => wpAny_typeOf_ref (k _ _ g) (by rw [z.1]; exact y)
  refine (PySem.W.exm_one (M := model X.prog X.w) S.kIn ty e).here ?_
  cases b with
  | false => exact r pins σ H cls d a B sI s D C (no rfl)
  | true =>
    refine codeAny_handlers_suite_as (HandSPX.lands_againZ C.fly fun h' f u => ?_)
    obtain ⟨oe', g', z', dd', S'⟩ := (C.again f u).held hf
    refine store_ok (X := X.suite a ((a, oe') :: (X.pn ++ pins))) (v := .ref a) S' hN hi (.inl hln) rfl (fun s5 S5 => ?_) (.inr hln)
    refine wpAny_mono ((hsu a oe' cls d (X.pn ++ pins) z' dd').run [] s5 _ H _ S5 (yes rfl a C.free)) (fun f s6 out => ?_) (fun _ _ y => y.elim)
    have bye : ∀ {τ : L2.St} {G : Hp} {R : Shared → Prop}, Inv (X.suite a ((a, oe') :: (X.pn ++ pins))) [] τ G s6 → (∀ s7, Inv X pins (τ.set i none) G s7 → R s7) →
        wpAny (model X.prog X.w) X.A (do bindName X.env n .none; unbindBehindTheSuite X.env n pos') (fun _ => R) X.xe s6 := fun J k => gone_ok (J.unsuite C.inv.ok) hN hi hln k
    match f, out with
    | .next, ⟨_, _, J, q⟩ => exact bye J fun _ J7 => ⟨_, _, J7, q⟩
    | .brk, ⟨_, _, J, q⟩ => exact bye J fun _ J7 => ⟨_, _, J7, q⟩
    | .cont, ⟨_, _, J, q⟩ => exact bye J fun _ J7 => ⟨_, _, J7, q⟩
    | .ret _, ⟨_, _, _, J, r6, q⟩ => exact bye J fun _ J7 => ⟨_, _, _, J7, r6, q⟩
theorem hears_plain (hf : X.env.frame = some X.env.locals) (hc : Names X x c)
    (hsu : ∀ (a : Addr) (oe : Obj) (cls : Value) (d : Option Addr) (pn : List (Addr × Obj)), Zc cls d oe → (∃ vs, oe.data = .fields vs) → PSs (X.suite a ((a, oe) :: pn)) (b₀ :: suite) (ts a cls d)) (r : Hears X hds W) :
    Hears X (.ExceptHandler (some (.Name x np)) none (b₀ :: suite) pos' :: hds) (wPlain X.K c ts W) := by
  intro pins σ H cls d a B sI s D C w
  obtain ⟨b, e, yes, no⟩ := w
  obtain ⟨oe, g, z, dd, S⟩ := C.held hf
  refine wpAny_handleBy_cons (codeAny_handlers_test (clause_asked hc S ?_)) (by intro y; cases y)
  have ty : PySem.W.Looks (model X.prog X.w) s.heap (typeOf (.ref a)) cls := fun A Q E s' k y => wpAny_typeOf_ref (k _ _ g) (by rw [z.1]; exact y)
  refine (PySem.W.exm_one (M := model X.prog X.w) S.kIn ty e).here ?_
  cases b with
  | false => exact r pins σ H cls d a B sI s D C (no rfl)
  | true =>
    refine codeAny_handlers_suite (HandSPX.lands_againZ C.fly fun h' f u => ?_)
    obtain ⟨oe', g', z', dd', S'⟩ := (C.again f u).held hf
    refine wpAny_mono ((hsu a oe' cls d (X.pn ++ pins) z' dd').run [] _ _ H _ S' (yes rfl a C.free)) (fun f s6 out => ?_) (fun _ _ y => y.elim)
    match f, out with
    | .next, ⟨_, _, J, q⟩ => exact ⟨_, _, J.unsuite C.inv.ok, q⟩
    | .brk, ⟨_, _, J, q⟩ => exact ⟨_, _, J.unsuite C.inv.ok, q⟩
    | .cont, ⟨_, _, J, q⟩ => exact ⟨_, _, J.unsuite C.inv.ok, q⟩
    | .ret _, ⟨_, _, _, J, r6, q⟩ => exact ⟨_, _, _, J.unsuite C.inv.ok, r6, q⟩
theorem ps_try_hears {body : List Stmt} {h₀ : ExceptHandler} {pos : Pos} {tb : WX → TS} (hs : X.stack = X.env :: X.outer) (hf : X.env.frame = some X.env.locals)
    (hb : ∀ (W' : WX) (pn : List (Addr × Obj)) (xe : Value → Shared → Prop), Takes (X.tr pn xe) W' → PassesOwn (model X.prog X.w) X.A X.env xe → PSs (X.tr pn xe) body (tb W'))
    (hh : Hears X (h₀ :: hds) W) : PS X (.Try body (h₀ :: hds) [] [] pos) (fun D σ H => tb (W D) D σ H) := by
  constructor
  intro pins s σ H D I h
  let xe : Value → Shared → Prop := fun e s₁ => wpAny (model X.prog X.w) X.A (noteFrame e X.env) (fun _ s₂ => wpAny (model X.prog X.w) X.A (setFlight e none)
    (fun _ s₃ => wpAny (model X.prog X.w) X.A (handleBy e X.env (h₀ :: hds)) (SP X pins D) X.xe s₃) X.xe s₂) X.xe s₁
  have fr : X.A.frames = some (X.env :: X.outer) := by rw [I.ok.frames, hs]
  have caught : Takes (X.tr (X.pn ++ pins) xe) (W D) := by
    intro u s' air
    obtain ⟨a, B, sI, pn', σ', H', cls, d, rfl, J, nb, up, sky, na, os, ag, w⟩ := air
    have sky : Sky B X.stack a (Zc cls d) X.env.locals s'.heap := sky
    rw [hs] at sky
    refine Sky.land Zc.steady fr hf sky fun h3 fl up3 => ?_
    exact hh pins σ' H' cls d a B sI { s' with heap := h3 } D ⟨J.ofTry I.ok, nb, up.trans up3, fl, na, os, ag⟩ w
  refine wpAny_Try_except (wpAny_mono ((hb (W D) (X.pn ++ pins) xe caught PassesOwn.looking).run [] s σ H D (I.toTry _) h) (fun f s1 out => ?_) (fun e s1 he => he))
  match f, out with
  | .next, ⟨_, _, J, q⟩ => exact wpAny_execs_nil ⟨_, _, J.ofTry I.ok, q⟩
  | .brk, ⟨_, _, J, q⟩ => exact ⟨_, _, J.ofTry I.ok, q⟩
  | .cont, ⟨_, _, J, q⟩ => exact ⟨_, _, J.ofTry I.ok, q⟩
  | .ret _, ⟨_, _, _, J, r, q⟩ => exact ⟨_, _, _, J.ofTry I.ok, r, q⟩
end
end KX

namespace KX
open PySem PySem.Spec PyProof.Rows L2 RZ
/-! ### zip of a tuple and a list -/
/-- the tuple at a and the list at b as they stand at each turn, the items in new pairs -/
def ItzM (K : PySem.W.Frag) (a b : Addr) : It where
  go i H := ∃ (xs ys : List V) (x y : V), SqT K H a xs ∧ SqL K H b ys ∧ xs[i]? = some x ∧ ys[i]? = some y
  yld i H v H' := ∃ T x y, v = .ref T ∧ H T = none ∧ H' = upd H T (.tup [x, y]) ∧ (∀ xs, SqT K H a xs → xs[i]? = some x) ∧ ∀ ys, SqL K H b ys → ys[i]? = some y
  stop i H := ∃ xs ys : List V, SqT K H a xs ∧ SqL K H b ys ∧ i ≤ xs.length ∧ i ≤ ys.length ∧ (i = xs.length ∨ i = ys.length)
/-- the five cells of such a zip, the object sizes told from n on -/
def zipCells (n : Nat) : List Addr := [n + 4, n + 2, n + 3, n, n + 1]
def ZipM (n a b i : Nat) (h : Heap) : Prop := IsZip h (n + 4) (n + 2) (n + 3) .none ∧ IsPair h (n + 2) (.ref n) (.ref (n + 1)) ∧ (∃ x y, IsPair h (n + 3) x y) ∧ h.IsTupleIter n a i ∧ h.IsListIter (n + 1) b i
theorem mem_cells {n c : Nat} : c ∈ zipCells n ↔ c = n + 4 ∨ c = n + 2 ∨ c = n + 3 ∨ c = n ∨ c = n + 1 := by
  unfold zipCells
  simp
theorem sepM {n a b : Nat} (ha : a < n) (hb : b < n) : ZipSep2 (n + 4) (n + 2) (n + 3) n (n + 1) [n, a] [n + 1, b] := by
  have nm : ∀ {x y z : Nat}, x ≠ y → x ≠ z → x ∉ [y, z] := fun h1 h2 m => by
    simp at m
    omega
  exact ⟨show n + 2 ≠ n + 4 by omega, show n + 3 ≠ n + 4 by omega, show n + 2 ≠ n + 3 by omega, show n + 2 ≠ n by omega, by simp, nm (by omega) (by omega), nm (by omega) (by omega),
    show n + 2 ≠ n + 1 by omega, by simp, nm (by omega) (by omega), nm (by omega) (by omega), nm (by omega) (by omega), nm (by omega) (by omega)⟩
theorem turn_zipM {P : Program} {w : World} {K : PySem.W.Frag} {elts : List Expr} {kk : Nat} {tpos : Pos} {a b : Addr} {n : Nat} (ha : a < n) (hb : b < n) :
    Turn P w K (.Tuple elts kk tpos) (ItzM K a b) (zipCells n) (n + 4 : Nat) (ZipM n a b) where
  mem := mem_cells.mpr (.inl rfl)
  obj i h st c hc := by
    obtain ⟨z1, z2, ⟨x, y, z3⟩, ⟨o1, e1, _, d1⟩, ⟨o2, e2, _, d2⟩⟩ := st
    rcases mem_cells.mp hc with rfl | rfl | rfl | rfl | rfl
    · exact ⟨_, z1, fun v q => nomatch q⟩
    · exact ⟨_, z2, fun v q => nomatch q⟩
    · exact ⟨_, z3, fun v q => nomatch q⟩
    · exact ⟨o1, e1, fun v q => by rw [d1] at q; cases q⟩
    · exact ⟨o2, e2, fun v q => by rw [d2] at q; cases q⟩
  keep i h h' st k := by
    have k' := fun c hc => k c (mem_cells.mpr hc)
    obtain ⟨z1, z2, ⟨x, y, z3⟩, t1, t2⟩ := st
    exact ⟨k' _ (.inl rfl) _ z1, k' _ (.inr (.inl rfl)) _ z2, ⟨x, y, k' _ (.inr (.inr (.inl rfl))) _ z3⟩, t1.at fun o q => k' _ (.inr (.inr (.inr (.inl rfl)))) o q, t2.at fun o q => k' _ (.inr (.inr (.inr (.inr rfl)))) o q⟩
  item X hP hw hK hc i pins s σ H E I hf st hg := by
    subst hP hw hK
    obtain ⟨z1, z2, ⟨x0, y0, z3⟩, t1, t2⟩ := st
    obtain ⟨xs, ys, x, y, qx, qy, ex, ey⟩ := hg
    obtain ⟨us, rv, p1, _⟩ := I.tuple qx
    obtain ⟨vs, rv2, p2, _⟩ := I.list qy
    obtain ⟨u, hu, ru⟩ := rv.get ex
    obtain ⟨u2, hu2, ru2⟩ := rv2.get ey
    have hi1 : i < us.toArray.size := by have := (List.getElem?_eq_some_iff.mp hu).1; simpa using this
    have hi2 : i < vs.toArray.size := by have := (List.getElem?_eq_some_iff.mp hu2).1; simpa using this
    have D1 := Draws.tuple (prog := X.prog) (w := X.w) (A := X.A.in1) (I.ok.hd hc) n a (Nat.ne_of_lt ha) us.toArray
    have D2 := Draws.list (prog := X.prog) (w := X.w) (A := X.A.in1) (I.ok.hd hc) (n + 1) b (Nat.ne_of_lt (Nat.lt_succ_of_lt hb)) vs.toArray
    have lz : n + 4 < s.heap.objs.size := Heap.lt_size z1
    refine wpAny_pyNext_zipD2_item (sepM ha hb) D1 D2 z1 z2 z3 ⟨t1, p1⟩ ⟨t2, p2.isList⟩ hi1 hi2 fun w1 w2 h' tk y1 y2 b1 b2 st1 st2 bT bs keep => ?_
    have e1 : w1 = u := by
      have y1 : us.toArray[i]? = some w1 := y1
      rw [List.getElem?_toArray, hu] at y1
      exact (Option.some.inj y1).symm
    have e2 : w2 = u2 := by
      have y2 : vs.toArray[i]? = some w2 := y2
      rw [List.getElem?_toArray, hu2] at y2
      exact (Option.some.inj y2).symm
    subst e1 e2
    refine ⟨_, rfl, wpAny_letOwnedTupleGo_zip (s := { s with heap := h', toks := tk }) b1 fun h'' z1' sb => ?_⟩
    have hT : h''.get? s.heap.objs.size = some { cls := .type "tuple", data := .seq #[w1, w2] } := (sb.2 _ (Nat.ne_of_gt lz)).trans bT
    have ok : ObjOk X.prog X.w (upd H s.heap.objs.size (.tup [x, y])) h'' s.heap.objs.size (.tup [x, y]) := ⟨by show 2 ≤ sizeLine; decide, [w1, w2], .cons ru (.cons ru2 .nil), _, hT, rfl, _, rfl⟩
    have all : ∀ c o, c ∉ zipCells n → s.heap.get? c = some o → h''.get? c = some o := fun c o hc' q => by
      have hc' := fun z => hc' (mem_cells.mpr z)
      refine (sb.2 c fun z => hc' (.inl z)).trans (keep c o (fun z => hc' (.inl z)) (fun z => hc' (.inr (.inr (.inl z)))) (fun z => hc' (.inr (.inr (.inr (.inl z))))) (fun z => hc' (.inr (.inr (.inr (.inr z))))) q)
    have I1 : Inv X pins σ (upd H s.heap.objs.size (.tup [x, y])) { s with heap := h'', toks := tk } := I.turnedNew (t' := tk) (ch := zipCells n) all hf (Nat.le_refl _) ok
    refine ⟨.ref s.heap.objs.size, _, I1, rfl, ⟨_, x, y, rfl, I.hok.fresh (Nat.le_refl _), rfl, fun l hl => by rw [I.tuple_inj hl qx]; exact ex, fun l hl => by rw [I.list_inj hl qy]; exact ey⟩, ⟨z1', ?_, ⟨w1, w2, ?_⟩, ?_, ?_⟩, fun c hcm => ?_⟩
    · exact (sb.2 _ (by show (n + 2 : Nat) ≠ n + 4; omega)).trans (keep _ _ (by show (n + 2 : Nat) ≠ n + 4; omega) (by show (n + 2 : Nat) ≠ n + 3; omega) (by show (n + 2 : Nat) ≠ n; omega) (by show (n + 2 : Nat) ≠ n + 1; omega) z2)
    · exact (sb.2 _ (by show (n + 3 : Nat) ≠ n + 4; omega)).trans b2
    · exact st1.1.at fun o q => (sb.2 _ (by show (n : Nat) ≠ n + 4; omega)).trans q
    · exact st2.1.at fun o q => (sb.2 _ (by show (n + 1 : Nat) ≠ n + 4; omega)).trans q
    · have lt : c < s.heap.objs.size := by
        have : c ≤ n + 4 := by
          rcases mem_cells.mp hcm with e | e | e | e | e <;> (rw [e]; show (_ : Nat) ≤ n + 4; omega)
        exact Nat.lt_of_le_of_lt this lz
      rw [upd_ne (Nat.ne_of_lt lt)]
      exact (hf c hcm).1
  done X hP hw hK hc i pins s σ H E I hf st hg := by
    subst hP hw hK
    obtain ⟨z1, z2, ⟨x0, y0, z3⟩, t1, t2⟩ := st
    obtain ⟨xs, ys, qx, qy, l1, l2, hend⟩ := hg
    obtain ⟨us, rv, p1, _⟩ := I.tuple qx
    obtain ⟨vs, rv2, p2, _⟩ := I.list qy
    have D1 := Draws.tuple (prog := X.prog) (w := X.w) (A := X.A.in1) (I.ok.hd hc) n a (Nat.ne_of_lt ha) us.toArray
    have D2 := Draws.list (prog := X.prog) (w := X.w) (A := X.A.in1) (I.ok.hd hc) (n + 1) b (Nat.ne_of_lt (Nat.lt_succ_of_lt hb)) vs.toArray
    have e1 := rv.length
    have e2 := rv2.length
    have s1 : us.toArray.size = us.length := List.size_toArray
    have s2 : vs.toArray.size = vs.length := List.size_toArray
    refine wpAny_pyNext_zipD2_end (sepM ha hb) D1 D2 z1 z2 z3 ⟨t1, p1⟩ ⟨t2, p2.isList⟩ (by omega) (by omega) (by omega) fun h' tk keep => ⟨rfl, I.turnedL (t' := tk) (ch := zipCells n) (fun c o hc' q => ?_) hf⟩
    have hc' := fun z => hc' (mem_cells.mpr z)
    exact keep c o (fun z => hc' (.inl z)) (fun z => hc' (.inr (.inr (.inl z)))) (fun z => hc' (.inr (.inr (.inr (.inl z))))) (fun z => hc' (.inr (.inr (.inr (.inr z))))) q
  self A i s Q E st h := wpAny_pyIter_zip st.1 h
/-- the heap when such a zip is made -/
abbrev mzA (h : Heap) (a : Addr) : Heap := h.push { cls := .type "tuple_iterator", data := .fields #[.ref a, .int 0 0] }
abbrev mzB (h : Heap) (a b : Addr) : Heap := (mzA h a).push { cls := .type "list_iterator", data := .fields #[.ref b, .int 0 0] }
abbrev mzC (h : Heap) (a b : Addr) : Heap := (mzB h a b).push { cls := .type "tuple", data := .seq #[.ref h.objs.size, .ref (mzA h a).objs.size] }
abbrev mzD (h : Heap) (a b : Addr) : Heap := (mzC h a b).push { cls := .type "tuple", data := .seq #[.none, .none] }
abbrev mzE (h : Heap) (a b : Addr) : Heap := (mzD h a b).push { cls := .type "zip", data := .fields #[.none, .bool false, .bool false, .ref (mzB h a b).objs.size, .ref (mzC h a b).objs.size] }
theorem zipM_new (a b : Addr) (xs ys : Array Value) :
    Meets (Builtin.«zip.__new__» ⟨[.type "zip", .ref a, .ref b], []⟩) (fun _ R s => (s.heap.IsTuple a xs ∧ s.heap.IsList b ys) ∧ R (.ok (.ret (.ref (mzD s.heap a b).objs.size))) { s with heap := mzE s.heap a b }) :=
  .of_wp fun prog w A R s h => by
    obtain ⟨hp, g, d, tk, os⟩ := s
    obtain ⟨⟨ha, hb⟩, h⟩ := h
    have sub := sub_zip
    have k1 : Heap.IsTuple (Shared.heap ⟨hp, g, d, tk, os⟩) a xs := ha
    have k2 : Heap.IsList (Shared.heap ⟨mzA hp a, g, d, tk, os⟩) b ys := Heap.IsList.push hb _
    wp_walk using wpAny_pyIter_tuple k1, wpAny_pyIter_list k2
    exact ⟨_, rfl, h⟩
theorem call_zipM {prog : Program} {w : World} {A : Around} {E : Value → Shared → Prop} {s : Shared} {a b : Addr} {xs ys : Array Value} {Q : Value → Shared → Prop} (ha : s.heap.IsTuple a xs) (hb : s.heap.IsList b ys)
    (h : ∀ h', ZipM s.heap.objs.size a b 0 h' → h'.objs.size = s.heap.objs.size + 5 → (∀ c o, s.heap.get? c = some o → h'.get? c = some o) → Q (.ref (s.heap.objs.size + 4)) { s with heap := h' }) :
    wpAny (model prog w) A (call (.type "zip") [.ref a, .ref b]) Q E s := by
  refine callType_new F.called_zip (by decide) (F.typeCall_zip_2 _ _) (F.newCall_zip_2 _ _) (fun obj => F.args_object_init_3 obj _ _) F.entry_zip_new (zipM_new a b xs ys) ⟨⟨ha, hb⟩, ?_⟩
  have nA : (mzA s.heap a).objs.size = s.heap.objs.size + 1 := Heap.size_push ..
  have nB : (mzB s.heap a b).objs.size = s.heap.objs.size + 2 := by rw [Heap.size_push, nA]
  have nC : (mzC s.heap a b).objs.size = s.heap.objs.size + 3 := by rw [Heap.size_push, nB]
  have nD : (mzD s.heap a b).objs.size = s.heap.objs.size + 4 := by rw [Heap.size_push, nC]
  have nE : (mzE s.heap a b).objs.size = s.heap.objs.size + 5 := by rw [Heap.size_push, nD]
  have gE : (mzE s.heap a b).get? (mzD s.heap a b).objs.size = some _ := Heap.get?_push_size _ rfl
  have gD : (mzE s.heap a b).get? (mzC s.heap a b).objs.size = some _ := Heap.get?_push_of_some _ (Heap.get?_push_size _ rfl)
  have gC : (mzE s.heap a b).get? (mzB s.heap a b).objs.size = some _ := Heap.get?_push_of_some _ (Heap.get?_push_of_some _ (Heap.get?_push_size _ rfl))
  have gB : (mzE s.heap a b).get? (mzA s.heap a).objs.size = some _ := Heap.get?_push_of_some _ (Heap.get?_push_of_some _ (Heap.get?_push_of_some _ (Heap.get?_push_size _ rfl)))
  have gA : (mzE s.heap a b).get? s.heap.objs.size = some _ := Heap.get?_push_of_some _ (Heap.get?_push_of_some _ (Heap.get?_push_of_some _ (Heap.get?_push_of_some _ (Heap.get?_push_size _ rfl))))
  rw [nB, nC, nD] at gE
  rw [nC] at gD
  rw [nA, nB] at gC
  rw [nA] at gB
  rw [nD]
  show _ ∧ _
  refine ⟨⟨_, gE, rfl⟩, h (mzE s.heap a b) ⟨gE, gC, ⟨.none, .none, gD⟩, ⟨_, gA, rfl, rfl⟩, ⟨_, gB, rfl, rfl⟩⟩ nE fun c o e => ?_⟩
  exact Heap.get?_push_of_some _ (Heap.get?_push_of_some _ (Heap.get?_push_of_some _ (Heap.get?_push_of_some _ (Heap.get?_push_of_some _ e))))
def iZipM (K : PySem.W.Frag) (ta : TA) : TI := fun σ H R => ta σ H fun vs H1 => ∃ a b xs ys, vs = [.ref a, .ref b] ∧ SqT K H1 a xs ∧ SqL K H1 b ys ∧ R (ItzM K a b) H1
theorem pi_zipM {X : Cx} {e e2 : Expr} {ta : TA} {p pos tpos : Pos} {elts : List Expr} {kk : Nat} (hg : Gl X "zip") (hm : X.mg "zip" = none) (ha : PA X [e, e2] ta)
    (hs : starEach [e, e2] X.env = (false, eval e X.env) :: starEach [e2] X.env := by rfl) (hpl : (backTo pos (starEach [e2] X.env)).any (·.1) = false := by rfl) :
    PI X (.Tuple elts kk tpos) (.Call (.Name "zip" p) [e, e2] [] pos) (iZipM X.K ta) := by
  constructor
  intro pins s σ H R I h
  refine Call_ (ld_blt I hg hm PyProof.Rows.boot_zip (PyProof.Rows.callWith_type1 (thn (ha.run pos pins s σ H _ I h) fun us s1 z => ?_) hs hpl))
  obtain ⟨vs, H1, I1, r1, a, b, xs, ys, rfl, qx, qy, q⟩ := z
  obtain ⟨v1, v2, rfl, r, r'⟩ := vals2 r1
  cases r
  cases r'
  obtain ⟨us, rv, p1, _⟩ := I1.tuple qx
  obtain ⟨ws, rv2, p2, _⟩ := I1.list qy
  obtain ⟨o1, ho1, _⟩ := id p1
  have lb : b < s1.heap.objs.size := p2.lt
  refine call_zipM (show s1.heap.IsTuple a us.toArray from p1) p2.isList fun h' st n5 keep => wpAny_pyIter_zip st.1 ?_
  refine ⟨_, zipCells s1.heap.objs.size, _, _, H1, rfl, I1.kept (t' := s1.toks) keep, turn_zipM (Heap.lt_size ho1) lb, st, fun c hc => ?_, q⟩
  have le : s1.heap.objs.size ≤ c := by
    rcases mem_cells.mp hc with e | e | e | e | e <;> (rw [e]; first | exact Nat.le_refl _ | exact Nat.le_add_right _ _)
  exact I1.fpOk le (I1.hok.fresh le)
theorem walk_zipM {K : PySem.W.Frag} {a b : Addr} {xs ys : List V} (hl : xs.length = ys.length) : Walk (ItzM K a b) xs.length (fun H => SqT K H a xs ∧ SqL K H b ys) (YPair (fun i => xs[i]?) (fun i => ys[i]?)) := by
  refine ⟨fun i _ hi q => ⟨xs, ys, xs[i], ys[i]'(by omega), q.1, q.2, by simp [hi], by simp⟩, fun _ q => ⟨xs, ys, q.1, q.2, Nat.le_refl _, by omega, .inl rfl⟩, fun i H v H' _ q y => ?_⟩
  obtain ⟨T, x, z, h1, h2, h3, h4, h5⟩ := y
  exact ⟨T, x, z, h1, h2, h3, h4 xs q.1, h5 ys q.2⟩
theorem walk_zipT {K : PySem.W.Frag} {a b : Addr} {xs ys : List V} (hl : xs.length = ys.length) : Walk (ItzT K a b) xs.length (fun H => SqT K H a xs ∧ SqT K H b ys) (YPair (fun i => xs[i]?) (fun i => ys[i]?)) := by
  refine ⟨fun i _ hi q => ⟨xs, ys, xs[i], ys[i]'(by omega), q.1, q.2, by simp [hi], by simp⟩, fun _ q => ⟨xs, ys, q.1, q.2, .inl (Nat.le_refl _)⟩, fun i H v H' _ q y => ?_⟩
  obtain ⟨T, x, z, h1, h2, h3, h4, h5⟩ := y
  exact ⟨T, x, z, h1, h2, h3, h4 xs q.1, h5 ys q.2⟩
/-- zip of a tuple and of a list or a tuple -/
def iZipTX (K : PySem.W.Frag) (ta : TA) : TI := fun σ H R => iZipM K ta σ H R ∨ iZipA K ta σ H R
theorem pi_zipTX {X : Cx} {K : PySem.W.Frag} {e e2 : Expr} {ta : TA} {p pos tpos : Pos} {elts : List Expr} {kk : Nat} (hg : Gl X "zip") (hm : X.mg "zip" = none) (ha : PA X [e, e2] ta)
    (hs : starEach [e, e2] X.env = (false, eval e X.env) :: starEach [e2] X.env := by rfl) (hpl : (backTo pos (starEach [e2] X.env)).any (·.1) = false := by rfl) (hK : X.K = K := by rfl) :
    PI X (.Tuple elts kk tpos) (.Call (.Name "zip" p) [e, e2] [] pos) (iZipTX K ta) := by
  subst hK
  constructor
  intro pins s σ H R I h
  rcases h with h | h
  · exact (pi_zipM hg hm ha hs hpl).run pins s σ H R I h
  · exact (pi_zipA hg hm ha hs hpl).run pins s σ H R I h
end KX

namespace K71
open PySem PySem.Spec PyProof.Rows L2 KX
def top (i : Nat) : Stmt :=
  PySem.Challenge.pw_handalong_k71_covers_by_turns.main.body.getD i (.Pass ⟨0, 0, 0, 0⟩)
theorem iteT' {A B : Prop} {c : Bool} (h : c = true) (a : A) : if c = true then A else B := by rw [if_pos h]; exact a
theorem iteF' {A B : Prop} {c : Bool} (h : c = false) (b : B) : if c = true then A else B := by rw [h]; exact iteF b
abbrev s_is_integer : Stmt := top 2
abbrev N_is_integer : List Str := ["value"]
theorem sc_is_integer : FnScope N_is_integer ["value"] (defScope s_is_integer) := ⟨rfl, rfl, rfl, by decide +kernel, rfl, by decide +kernel, by decide +kernel⟩
abbrev s_is_number : Stmt := top 3
abbrev N_is_number : List Str := ["value"]
theorem sc_is_number : FnScope N_is_number ["value"] (defScope s_is_number) := ⟨rfl, rfl, rfl, by decide +kernel, rfl, by decide +kernel, by decide +kernel⟩
abbrev s_is_below : Stmt := top 4
abbrev N_is_below : List Str := ["value", "limit"]
theorem sc_is_below : FnScope N_is_below ["value", "limit"] (defScope s_is_below) := ⟨rfl, rfl, rfl, by decide +kernel, rfl, by decide +kernel, by decide +kernel⟩
abbrev s_is_sequence : Stmt := top 5
abbrev N_is_sequence : List Str := ["value"]
theorem sc_is_sequence : FnScope N_is_sequence ["value"] (defScope s_is_sequence) := ⟨rfl, rfl, rfl, by decide +kernel, rfl, by decide +kernel, by decide +kernel⟩
abbrev s_is_tuple_of : Stmt := top 6
abbrev N_is_tuple_of : List Str := ["value", "length"]
theorem sc_is_tuple_of : FnScope N_is_tuple_of ["value", "length"] (defScope s_is_tuple_of) := ⟨rfl, rfl, rfl, by decide +kernel, rfl, by decide +kernel, by decide +kernel⟩
abbrev s_is_mode : Stmt := top 16
abbrev N_is_mode : List Str := ["value"]
theorem sc_is_mode : FnScope N_is_mode ["value"] (defScope s_is_mode) := ⟨rfl, rfl, rfl, by decide +kernel, rfl, by decide +kernel, by decide +kernel⟩
abbrev s_are_neighbours : Stmt := top 17
abbrev N_are_neighbours : List Str := ["value", "mode"]
theorem sc_are_neighbours : FnScope N_are_neighbours ["value"] (defScope s_are_neighbours) := ⟨rfl, rfl, rfl, by decide +kernel, rfl, by decide +kernel, by decide +kernel⟩
abbrev s_made_view : Stmt := top 18
abbrev N_made_view : List Str := ["mode", "neighbours"]
theorem sc_made_view : FnScope N_made_view ["mode", "neighbours"] (defScope s_made_view) := ⟨rfl, rfl, rfl, by decide +kernel, rfl, by decide +kernel, by decide +kernel⟩
abbrev s_checked_modes : Stmt := top 21
abbrev N_checked_modes : List Str := ["modes", "at", "mode"]
theorem sc_checked_modes : FnScope N_checked_modes ["modes"] (defScope s_checked_modes) := ⟨rfl, rfl, rfl, by decide +kernel, rfl, by decide +kernel, by decide +kernel⟩
abbrev s_linked_sites : Stmt := top 22
abbrev N_linked_sites : List Str := ["many", "links", "near", "at", "link", "one", "other", "_", "row"]
theorem sc_linked_sites : FnScope N_linked_sites ["many", "links"] (defScope s_linked_sites) := ⟨rfl, rfl, rfl, by decide +kernel, rfl, by decide +kernel, by decide +kernel⟩
abbrev s_can_link : Stmt := top 23
abbrev N_can_link : List Str := ["near", "link", "one", "other"]
theorem sc_can_link : FnScope N_can_link ["near", "link"] (defScope s_can_link) := ⟨rfl, rfl, rfl, by decide +kernel, rfl, by decide +kernel, by decide +kernel⟩
abbrev s_check_copies : Stmt := top 26
abbrev N_check_copies : List Str := ["network", "copies", "things"]
theorem sc_check_copies : FnScope N_check_copies ["network", "copies", "things"] (defScope s_check_copies) := ⟨rfl, rfl, rfl, by decide +kernel, rfl, by decide +kernel, by decide +kernel⟩
abbrev s_is_turn : Stmt := top 27
abbrev N_is_turn : List Str := ["value", "copies", "number"]
theorem sc_is_turn : FnScope N_is_turn ["value", "copies"] (defScope s_is_turn) := ⟨rfl, rfl, rfl, by decide +kernel, rfl, by decide +kernel, by decide +kernel⟩
abbrev s_turned_over : Stmt := top 28
abbrev N_turned_over : List Str := ["network", "copies", "turns", "modes", "links", "one", "other", "turn", "mode", "_", "at", "to"]
theorem sc_turned_over : FnScope N_turned_over ["network", "copies", "turns"] (defScope s_turned_over) := ⟨rfl, rfl, rfl, by decide +kernel, rfl, by decide +kernel, by decide +kernel⟩
abbrev s_cover : Stmt := top 29
abbrev N_cover : List Str := ["network", "copies", "turns", "at", "turn"]
theorem sc_cover : FnScope N_cover ["network", "copies", "turns"] (defScope s_cover) := ⟨rfl, rfl, rfl, by decide +kernel, rfl, by decide +kernel, by decide +kernel⟩
abbrev s_shifted : Stmt := top 30
abbrev N_shifted : List Str := ["network", "copies", "shifts", "at", "shift", "own"]
theorem sc_shifted : FnScope N_shifted ["network", "copies", "shifts"] (defScope s_shifted) := ⟨rfl, rfl, rfl, by decide +kernel, rfl, by decide +kernel, by decide +kernel⟩
abbrev s_is_over : Stmt := top 31
abbrev N_is_over : List Str := ["network", "base", "sites", "modes", "site", "at"]
theorem sc_is_over : FnScope N_is_over ["network", "base", "sites", "modes"] (defScope s_is_over) := ⟨rfl, rfl, rfl, by decide +kernel, rfl, by decide +kernel, by decide +kernel⟩
abbrev s_near_sites : Stmt := top 32
abbrev N_near_sites : List Str := ["network", "at", "sites", "other"]
theorem sc_near_sites : FnScope N_near_sites ["network", "at", "sites"] (defScope s_near_sites) := ⟨rfl, rfl, rfl, by decide +kernel, rfl, by decide +kernel, by decide +kernel⟩
abbrev s__law_draw : Stmt := top 34
abbrev N__law_draw : List Str := ["_law_script", "_law_salt", "_law_cells", "_law_blend", "_law_cell"]
theorem sc__law_draw : FnScope N__law_draw ["_law_script", "_law_salt"] (defScope s__law_draw) := ⟨rfl, rfl, rfl, by decide +kernel, rfl, by decide +kernel, by decide +kernel⟩
abbrev s__law_any : Stmt := top 35
abbrev N__law_any : List Str := ["_law_deal", "_law_bound", "_law_rest"]
theorem sc__law_any : FnScope N__law_any ["_law_deal", "_law_bound"] (defScope s__law_any) := ⟨rfl, rfl, rfl, by decide +kernel, rfl, by decide +kernel, by decide +kernel⟩
abbrev s__law_of : Stmt := top 36
abbrev N__law_of : List Str := ["_law_deal", "_law_some"]
theorem sc__law_of : FnScope N__law_of ["_law_deal", "_law_some"] (defScope s__law_of) := ⟨rfl, rfl, rfl, by decide +kernel, rfl, by decide +kernel, by decide +kernel⟩
abbrev s__law_links : Stmt := top 37
abbrev N__law_links : List Str := ["_law_deal", "_law_many", "_law_form", "_law_links_here", "_law_most", "_law_steps", "_law_one", "_law_step", "_law_other", "_law_met", "_law_site", "_law_link"]
theorem sc__law_links : FnScope N__law_links ["_law_deal", "_law_many"] (defScope s__law_links) := ⟨rfl, rfl, rfl, by decide +kernel, rfl, by decide +kernel, by decide +kernel⟩
abbrev s__law_network : Stmt := top 38
abbrev N__law_network : List Str := ["_law_deal", "_law_kinds", "_law_many", "_law_start", "_law_turn_here", "_law_modes", "_law_at"]
theorem sc__law_network : FnScope N__law_network ["_law_deal", "_law_kinds", "_law_many"] (defScope s__law_network) := ⟨rfl, rfl, rfl, by decide +kernel, rfl, by decide +kernel, by decide +kernel⟩
abbrev s__law_turn : Stmt := top 39
abbrev N__law_turn : List Str := ["_law_deal", "_law_copies", "_law_left", "_law_found"]
theorem sc__law_turn : FnScope N__law_turn ["_law_deal", "_law_copies"] (defScope s__law_turn) := ⟨rfl, rfl, rfl, by decide +kernel, rfl, by decide +kernel, by decide +kernel⟩
abbrev s__law_due : Stmt := top 40
abbrev N__law_due : List Str := ["_law_modes", "_law_links_here", "_law_copies", "_law_turns", "_law_made", "_law_found", "_law_mode", "_law_at", "_law_link", "_law_copy"]
theorem sc__law_due : FnScope N__law_due ["_law_modes", "_law_links_here", "_law_copies", "_law_turns"] (defScope s__law_due) := ⟨rfl, rfl, rfl, by decide +kernel, rfl, by decide +kernel, by decide +kernel⟩
abbrev s__law_below : Stmt := top 41
abbrev N__law_below : List Str := ["_law_many", "_law_copies", "_law_found", "_law_site"]
theorem sc__law_below : FnScope N__law_below ["_law_many", "_law_copies"] (defScope s__law_below) := ⟨rfl, rfl, rfl, by decide +kernel, rfl, by decide +kernel, by decide +kernel⟩
abbrev s__law_refused : Stmt := top 42
abbrev N__law_refused : List Str := ["_law_work", "error"]
theorem sc__law_refused : FnScope N__law_refused ["_law_work"] (defScope s__law_refused) := ⟨rfl, rfl, rfl, by decide +kernel, rfl, by decide +kernel, by decide +kernel⟩
abbrev s__law_bad_turn : Stmt := top 43
abbrev N__law_bad_turn : List Str := ["_law_deal", "_law_copies", "_law_some"]
theorem sc__law_bad_turn : FnScope N__law_bad_turn ["_law_deal", "_law_copies"] (defScope s__law_bad_turn) := ⟨rfl, rfl, rfl, by decide +kernel, rfl, by decide +kernel, by decide +kernel⟩
abbrev s__law_refusals_right : Stmt := top 44
abbrev N__law_refusals_right : List Str := ["_law_deal", "_law_network_here", "_law_links_here", "_law_copies", "_law_turns", "_law_shifts", "_law_at", "_law_bent", "_law_moved", "_law_things", "_law_work", "_law_wrong"]
theorem sc__law_refusals_right : FnScope N__law_refusals_right ["_law_deal", "_law_network_here", "_law_links_here", "_law_copies", "_law_turns", "_law_shifts"] (defScope s__law_refusals_right) := ⟨rfl, rfl, rfl, by decide +kernel, rfl, by decide +kernel, by decide +kernel⟩
abbrev s_law : Stmt := top 45
abbrev N_law : List Str := ["_law_script", "_law_deal", "_law_modes", "_law_links_here", "_law_copies", "_law_turns", "_law_network_here", "_law_shifts", "_law_kept", "_law_sites", "_law_made", "_law_told", "_law_link", "_law_at", "_law_site", "_law_shift", "_law_copy"]
theorem sc_law : FnScope N_law ["_law_script"] (defScope s_law) := ⟨rfl, rfl, rfl, by decide +kernel, rfl, by decide +kernel, by decide +kernel⟩
abbrev s_Network_init : Stmt := inClass (top 20) 0
abbrev N_Network_init : List Str := ["self", "modes", "links", "one", "near", "other"]
theorem sc_Network_init : FnScope N_Network_init ["self", "modes", "links"] (defScope s_Network_init) := ⟨rfl, rfl, rfl, by decide +kernel, rfl, by decide +kernel, by decide +kernel⟩
abbrev s_Network_eq : Stmt := inClass (top 20) 1
abbrev N_Network_eq : List Str := ["self", "other"]
theorem sc_Network_eq : FnScope N_Network_eq ["self", "other"] (defScope s_Network_eq) := ⟨rfl, rfl, rfl, by decide +kernel, rfl, by decide +kernel, by decide +kernel⟩
abbrev s_Network_neighbours : Stmt := inClass (top 20) 2
abbrev N_Network_neighbours : List Str := ["self", "at"]
theorem sc_Network_neighbours : FnScope N_Network_neighbours ["self", "at"] (defScope s_Network_neighbours) := ⟨rfl, rfl, rfl, by decide +kernel, rfl, by decide +kernel, by decide +kernel⟩
abbrev s_Network_view : Stmt := inClass (top 20) 3
abbrev N_Network_view : List Str := ["self", "at", "other"]
theorem sc_Network_view : FnScope N_Network_view ["self", "at"] (defScope s_Network_view) := ⟨rfl, rfl, rfl, by decide +kernel, rfl, by decide +kernel, by decide +kernel⟩
/-- what the top must have -/
structure TX (K : PySem.W.Frag) (mg : Str → Option Value) where
  f_is_integer : Addr
  d_is_integer : FuncData
  F_is_integer : Fun K "is_integer" "is_integer" s_is_integer f_is_integer d_is_integer
  m_is_integer : mg "is_integer" = some (.ref f_is_integer)
  f_is_number : Addr
  d_is_number : FuncData
  F_is_number : Fun K "is_number" "is_number" s_is_number f_is_number d_is_number
  m_is_number : mg "is_number" = some (.ref f_is_number)
  f_is_below : Addr
  d_is_below : FuncData
  F_is_below : Fun K "is_below" "is_below" s_is_below f_is_below d_is_below
  m_is_below : mg "is_below" = some (.ref f_is_below)
  f_is_sequence : Addr
  d_is_sequence : FuncData
  F_is_sequence : Fun K "is_sequence" "is_sequence" s_is_sequence f_is_sequence d_is_sequence
  m_is_sequence : mg "is_sequence" = some (.ref f_is_sequence)
  f_is_tuple_of : Addr
  d_is_tuple_of : FuncData
  F_is_tuple_of : Fun K "is_tuple_of" "is_tuple_of" s_is_tuple_of f_is_tuple_of d_is_tuple_of
  m_is_tuple_of : mg "is_tuple_of" = some (.ref f_is_tuple_of)
  f_is_mode : Addr
  d_is_mode : FuncData
  F_is_mode : Fun K "is_mode" "is_mode" s_is_mode f_is_mode d_is_mode
  m_is_mode : mg "is_mode" = some (.ref f_is_mode)
  f_are_neighbours : Addr
  d_are_neighbours : FuncData
  F_are_neighbours : Fun K "are_neighbours" "are_neighbours" s_are_neighbours f_are_neighbours d_are_neighbours
  m_are_neighbours : mg "are_neighbours" = some (.ref f_are_neighbours)
  f_made_view : Addr
  d_made_view : FuncData
  F_made_view : Fun K "made_view" "made_view" s_made_view f_made_view d_made_view
  m_made_view : mg "made_view" = some (.ref f_made_view)
  f_checked_modes : Addr
  d_checked_modes : FuncData
  F_checked_modes : Fun K "checked_modes" "checked_modes" s_checked_modes f_checked_modes d_checked_modes
  m_checked_modes : mg "checked_modes" = some (.ref f_checked_modes)
  f_linked_sites : Addr
  d_linked_sites : FuncData
  F_linked_sites : Fun K "linked_sites" "linked_sites" s_linked_sites f_linked_sites d_linked_sites
  m_linked_sites : mg "linked_sites" = some (.ref f_linked_sites)
  f_can_link : Addr
  d_can_link : FuncData
  F_can_link : Fun K "can_link" "can_link" s_can_link f_can_link d_can_link
  m_can_link : mg "can_link" = some (.ref f_can_link)
  f_check_copies : Addr
  d_check_copies : FuncData
  F_check_copies : Fun K "check_copies" "check_copies" s_check_copies f_check_copies d_check_copies
  m_check_copies : mg "check_copies" = some (.ref f_check_copies)
  f_is_turn : Addr
  d_is_turn : FuncData
  F_is_turn : Fun K "is_turn" "is_turn" s_is_turn f_is_turn d_is_turn
  m_is_turn : mg "is_turn" = some (.ref f_is_turn)
  f_turned_over : Addr
  d_turned_over : FuncData
  F_turned_over : Fun K "turned_over" "turned_over" s_turned_over f_turned_over d_turned_over
  m_turned_over : mg "turned_over" = some (.ref f_turned_over)
  f_cover : Addr
  d_cover : FuncData
  F_cover : Fun K "cover" "cover" s_cover f_cover d_cover
  m_cover : mg "cover" = some (.ref f_cover)
  f_shifted : Addr
  d_shifted : FuncData
  F_shifted : Fun K "shifted" "shifted" s_shifted f_shifted d_shifted
  m_shifted : mg "shifted" = some (.ref f_shifted)
  f_is_over : Addr
  d_is_over : FuncData
  F_is_over : Fun K "is_over" "is_over" s_is_over f_is_over d_is_over
  m_is_over : mg "is_over" = some (.ref f_is_over)
  f_near_sites : Addr
  d_near_sites : FuncData
  F_near_sites : Fun K "near_sites" "near_sites" s_near_sites f_near_sites d_near_sites
  m_near_sites : mg "near_sites" = some (.ref f_near_sites)
  f__law_draw : Addr
  d__law_draw : FuncData
  F__law_draw : Fun K "_law_draw" "_law_draw" s__law_draw f__law_draw d__law_draw
  m__law_draw : mg "_law_draw" = some (.ref f__law_draw)
  f__law_any : Addr
  d__law_any : FuncData
  F__law_any : Fun K "_law_any" "_law_any" s__law_any f__law_any d__law_any
  m__law_any : mg "_law_any" = some (.ref f__law_any)
  f__law_of : Addr
  d__law_of : FuncData
  F__law_of : Fun K "_law_of" "_law_of" s__law_of f__law_of d__law_of
  m__law_of : mg "_law_of" = some (.ref f__law_of)
  f__law_links : Addr
  d__law_links : FuncData
  F__law_links : Fun K "_law_links" "_law_links" s__law_links f__law_links d__law_links
  m__law_links : mg "_law_links" = some (.ref f__law_links)
  f__law_network : Addr
  d__law_network : FuncData
  F__law_network : Fun K "_law_network" "_law_network" s__law_network f__law_network d__law_network
  m__law_network : mg "_law_network" = some (.ref f__law_network)
  f__law_turn : Addr
  d__law_turn : FuncData
  F__law_turn : Fun K "_law_turn" "_law_turn" s__law_turn f__law_turn d__law_turn
  m__law_turn : mg "_law_turn" = some (.ref f__law_turn)
  f__law_due : Addr
  d__law_due : FuncData
  F__law_due : Fun K "_law_due" "_law_due" s__law_due f__law_due d__law_due
  m__law_due : mg "_law_due" = some (.ref f__law_due)
  f__law_below : Addr
  d__law_below : FuncData
  F__law_below : Fun K "_law_below" "_law_below" s__law_below f__law_below d__law_below
  m__law_below : mg "_law_below" = some (.ref f__law_below)
  f__law_refused : Addr
  d__law_refused : FuncData
  F__law_refused : Fun K "_law_refused" "_law_refused" s__law_refused f__law_refused d__law_refused
  m__law_refused : mg "_law_refused" = some (.ref f__law_refused)
  f__law_bad_turn : Addr
  d__law_bad_turn : FuncData
  F__law_bad_turn : Fun K "_law_bad_turn" "_law_bad_turn" s__law_bad_turn f__law_bad_turn d__law_bad_turn
  m__law_bad_turn : mg "_law_bad_turn" = some (.ref f__law_bad_turn)
  f__law_refusals_right : Addr
  d__law_refusals_right : FuncData
  F__law_refusals_right : Fun K "_law_refusals_right" "_law_refusals_right" s__law_refusals_right f__law_refusals_right d__law_refusals_right
  m__law_refusals_right : mg "_law_refusals_right" = some (.ref f__law_refusals_right)
  f_law : Addr
  d_law : FuncData
  F_law : Fun K "law" "law" s_law f_law d_law
  m_law : mg "law" = some (.ref f_law)
  B_is_over : ∃ ds, Vals [V.bl true] ds ∧ Binds K d_is_over ["network", "base", "sites", "modes"] ds
  n_int : mg "int" = none
  n_bool : mg "bool" = none
  n_abs : mg "abs" = none
  n_len : mg "len" = none
  n_min : mg "min" = none
  n_max : mg "max" = none
  n_sorted : mg "sorted" = none
  n_tuple : mg "tuple" = none
  n_list : mg "list" = none
  n_range : mg "range" = none
  n_repr : mg "repr" = none
  n_isinstance : mg "isinstance" = none
  n_enumerate : mg "enumerate" = none
  n_all : mg "all" = none
  n_zip : mg "zip" = none
  t_MOST_MODES : Tok
  m_MOST_MODES : mg "MOST_MODES" = some (.int 4 t_MOST_MODES)
  t_MOST_NEIGHBOURS : Tok
  m_MOST_NEIGHBOURS : mg "MOST_NEIGHBOURS" = some (.int 4 t_MOST_NEIGHBOURS)
  t_MOST_COPIES : Tok
  m_MOST_COPIES : mg "MOST_COPIES" = some (.int 1000 t_MOST_COPIES)
  c_InvalidNetwork : Addr
  i_InvalidNetwork : Addr
  E_InvalidNetwork : PySem.ErrX.ErrTxt K mg "InvalidNetwork" "InvalidNetwork.__init__" c_InvalidNetwork i_InvalidNetwork
  c_InvalidView : Addr
  i_InvalidView : Addr
  E_InvalidView : PySem.ErrX.ErrTxt K mg "InvalidView" "InvalidView.__init__" c_InvalidView i_InvalidView
  c_InvalidQuestion : Addr
  i_InvalidQuestion : Addr
  E_InvalidQuestion : PySem.ErrX.ErrTxt K mg "InvalidQuestion" "InvalidQuestion.__init__" c_InvalidQuestion i_InvalidQuestion
  c_Refused : Addr
  i_Refused : Addr
  E_Refused : PySem.ErrX.ErrTxt K mg "Refused" "Refused.__init__" c_Refused i_Refused
  c_Network : Addr
  m_Network : mg "Network" = some (.ref c_Network)
  C_Network : Cls K c_Network
  A_Network_modes : NoAttr K c_Network "modes"
  A_Network__near : NoAttr K c_Network "_near"
  A_Network_links : NoAttr K c_Network "links"
  f_Network_init : Addr
  d_Network_init : FuncData
  F_Network_init : Fun K "__init__" "Network.__init__" s_Network_init f_Network_init d_Network_init
  f_Network_eq : Addr
  d_Network_eq : FuncData
  F_Network_eq : Fun K "__eq__" "Network.__eq__" s_Network_eq f_Network_eq d_Network_eq
  f_Network_neighbours : Addr
  d_Network_neighbours : FuncData
  F_Network_neighbours : Fun K "neighbours" "Network.neighbours" s_Network_neighbours f_Network_neighbours d_Network_neighbours
  H_Network_neighbours : Meth K c_Network "neighbours" f_Network_neighbours
  f_Network_view : Addr
  d_Network_view : FuncData
  F_Network_view : Fun K "view" "Network.view" s_Network_view f_Network_view d_Network_view
  H_Network_view : Meth K c_Network "view" f_Network_view
  M_Network : Mk K c_Network f_Network_init
  I_Network : IsCls K c_Network
  O_Network : OwnC K c_Network f_Network_eq
section
variable {K : PySem.W.Frag} {mg : Str → Option Value} (T : TX K mg)
theorem TX.b_is_integer : Binds K T.d_is_integer ["value"] [] := T.F_is_integer.binds fun _ _ _ _ _ _ us hl => match us, hl with | [_], _ => rfl
theorem TX.b_is_number : Binds K T.d_is_number ["value"] [] := T.F_is_number.binds fun _ _ _ _ _ _ us hl => match us, hl with | [_], _ => rfl
theorem TX.b_is_below : Binds K T.d_is_below ["value", "limit"] [] := T.F_is_below.binds fun _ _ _ _ _ _ us hl => match us, hl with | [_, _], _ => rfl
theorem TX.b_is_sequence : Binds K T.d_is_sequence ["value"] [] := T.F_is_sequence.binds fun _ _ _ _ _ _ us hl => match us, hl with | [_], _ => rfl
theorem TX.b_is_tuple_of : Binds K T.d_is_tuple_of ["value", "length"] [] := T.F_is_tuple_of.binds fun _ _ _ _ _ _ us hl => match us, hl with | [_, _], _ => rfl
theorem TX.b_is_mode : Binds K T.d_is_mode ["value"] [] := T.F_is_mode.binds fun _ _ _ _ _ _ us hl => match us, hl with | [_], _ => rfl
theorem TX.b_are_neighbours : Binds K T.d_are_neighbours ["value"] [] := T.F_are_neighbours.binds fun _ _ _ _ _ _ us hl => match us, hl with | [_], _ => rfl
theorem TX.b_made_view : Binds K T.d_made_view ["mode", "neighbours"] [] := T.F_made_view.binds fun _ _ _ _ _ _ us hl => match us, hl with | [_, _], _ => rfl
theorem TX.b_checked_modes : Binds K T.d_checked_modes ["modes"] [] := T.F_checked_modes.binds fun _ _ _ _ _ _ us hl => match us, hl with | [_], _ => rfl
theorem TX.b_linked_sites : Binds K T.d_linked_sites ["many", "links"] [] := T.F_linked_sites.binds fun _ _ _ _ _ _ us hl => match us, hl with | [_, _], _ => rfl
theorem TX.b_can_link : Binds K T.d_can_link ["near", "link"] [] := T.F_can_link.binds fun _ _ _ _ _ _ us hl => match us, hl with | [_, _], _ => rfl
theorem TX.b_check_copies : Binds K T.d_check_copies ["network", "copies", "things"] [] := T.F_check_copies.binds fun _ _ _ _ _ _ us hl => match us, hl with | [_, _, _], _ => rfl
theorem TX.b_is_turn : Binds K T.d_is_turn ["value", "copies"] [] := T.F_is_turn.binds fun _ _ _ _ _ _ us hl => match us, hl with | [_, _], _ => rfl
theorem TX.b_turned_over : Binds K T.d_turned_over ["network", "copies", "turns"] [] := T.F_turned_over.binds fun _ _ _ _ _ _ us hl => match us, hl with | [_, _, _], _ => rfl
theorem TX.b_cover : Binds K T.d_cover ["network", "copies", "turns"] [] := T.F_cover.binds fun _ _ _ _ _ _ us hl => match us, hl with | [_, _, _], _ => rfl
theorem TX.b_shifted : Binds K T.d_shifted ["network", "copies", "shifts"] [] := T.F_shifted.binds fun _ _ _ _ _ _ us hl => match us, hl with | [_, _, _], _ => rfl
theorem TX.b_near_sites : Binds K T.d_near_sites ["network", "at", "sites"] [] := T.F_near_sites.binds fun _ _ _ _ _ _ us hl => match us, hl with | [_, _, _], _ => rfl
theorem TX.b__law_draw : Binds K T.d__law_draw ["_law_script", "_law_salt"] [] := T.F__law_draw.binds fun _ _ _ _ _ _ us hl => match us, hl with | [_, _], _ => rfl
theorem TX.b__law_any : Binds K T.d__law_any ["_law_deal", "_law_bound"] [] := T.F__law_any.binds fun _ _ _ _ _ _ us hl => match us, hl with | [_, _], _ => rfl
theorem TX.b__law_of : Binds K T.d__law_of ["_law_deal", "_law_some"] [] := T.F__law_of.binds fun _ _ _ _ _ _ us hl => match us, hl with | [_, _], _ => rfl
theorem TX.b__law_links : Binds K T.d__law_links ["_law_deal", "_law_many"] [] := T.F__law_links.binds fun _ _ _ _ _ _ us hl => match us, hl with | [_, _], _ => rfl
theorem TX.b__law_network : Binds K T.d__law_network ["_law_deal", "_law_kinds", "_law_many"] [] := T.F__law_network.binds fun _ _ _ _ _ _ us hl => match us, hl with | [_, _, _], _ => rfl
theorem TX.b__law_turn : Binds K T.d__law_turn ["_law_deal", "_law_copies"] [] := T.F__law_turn.binds fun _ _ _ _ _ _ us hl => match us, hl with | [_, _], _ => rfl
theorem TX.b__law_due : Binds K T.d__law_due ["_law_modes", "_law_links_here", "_law_copies", "_law_turns"] [] := T.F__law_due.binds fun _ _ _ _ _ _ us hl => match us, hl with | [_, _, _, _], _ => rfl
theorem TX.b__law_below : Binds K T.d__law_below ["_law_many", "_law_copies"] [] := T.F__law_below.binds fun _ _ _ _ _ _ us hl => match us, hl with | [_, _], _ => rfl
theorem TX.b__law_refused : Binds K T.d__law_refused ["_law_work"] [] := T.F__law_refused.binds fun _ _ _ _ _ _ us hl => match us, hl with | [_], _ => rfl
theorem TX.b__law_bad_turn : Binds K T.d__law_bad_turn ["_law_deal", "_law_copies"] [] := T.F__law_bad_turn.binds fun _ _ _ _ _ _ us hl => match us, hl with | [_, _], _ => rfl
theorem TX.b__law_refusals_right : Binds K T.d__law_refusals_right ["_law_deal", "_law_network_here", "_law_links_here", "_law_copies", "_law_turns", "_law_shifts"] [] := T.F__law_refusals_right.binds fun _ _ _ _ _ _ us hl => match us, hl with | [_, _, _, _, _, _], _ => rfl
theorem TX.b_law : Binds K T.d_law ["_law_script"] [] := T.F_law.binds fun _ _ _ _ _ _ us hl => match us, hl with | [_], _ => rfl
theorem TX.b_Network_init : Binds K T.d_Network_init ["self", "modes", "links"] [] := T.F_Network_init.binds fun _ _ _ _ _ _ us hl => match us, hl with | [_, _, _], _ => rfl
theorem TX.b_Network_eq : Binds K T.d_Network_eq ["self", "other"] [] := T.F_Network_eq.binds fun _ _ _ _ _ _ us hl => match us, hl with | [_, _], _ => rfl
theorem TX.b_Network_neighbours : Binds K T.d_Network_neighbours ["self", "at"] [] := T.F_Network_neighbours.binds fun _ _ _ _ _ _ us hl => match us, hl with | [_, _], _ => rfl
theorem TX.b_Network_view : Binds K T.d_Network_view ["self", "at"] [] := T.F_Network_view.binds fun _ _ _ _ _ _ us hl => match us, hl with | [_, _], _ => rfl
end
/-! ### the deal -/
structure DealAt (H : Hp) (p q : Addr) (ns : List Int) (b : Int) : Prop where
  hp : H p = some (.lst [.ref q, .int b])
  hq : H q = some (.lst (ns.map V.int))
  ne : p ≠ q
  nn : ∀ n ∈ ns, 0 ≤ n
  len : ns.length ≤ 48
  b0 : 0 ≤ b
  b1 : b < 2147483647
def Deal (H : Hp) (p q : Addr) : Prop := ∃ ns b, DealAt H p q ns b
/-- all but the deal's two lists stays -/
def Fix (p q : Addr) (H H' : Hp) : Prop := ∀ a o, a ≠ p → a ≠ q → H a = some o → H' a = some o
theorem Fix.refl (p q : Addr) (H : Hp) : Fix p q H H := fun _ _ _ _ h => h
theorem Fix.trans {p q : Addr} {H H1 H2 : Hp} (a : Fix p q H H1) (b : Fix p q H1 H2) : Fix p q H H2 := fun c o h1 h2 h => b c o h1 h2 (a c o h1 h2 h)
theorem Fix.same {p q : Addr} {H H' : Hp} (s : Same H H') : Fix p q H H' := fun c o _ _ h => s c o h
theorem Fix.new {p q a : Addr} {H : Hp} {o : HO} (n : H a = none) : Fix p q H (upd H a o) := fun c u _ _ h => by
  rw [upd_ne (fun z => by rw [z, n] at h; cases h)]; exact h
theorem Fix.p {p q : Addr} {H : Hp} {o : HO} : Fix p q H (upd H p o) := fun c u h1 _ h => by rw [upd_ne h1]; exact h
theorem Fix.q {p q : Addr} {H : Hp} {o : HO} : Fix p q H (upd H q o) := fun c u _ h2 h => by rw [upd_ne h2]; exact h
theorem DealAt.new {H : Hp} {p q a : Addr} {ns : List Int} {b : Int} {o : HO} (d : DealAt H p q ns b) (n : H a = none) : DealAt (upd H a o) p q ns b :=
  ⟨by rw [upd_ne (fun z => by have := d.hp; rw [z, n] at this; cases this)]; exact d.hp,
   by rw [upd_ne (fun z => by have := d.hq; rw [z, n] at this; cases this)]; exact d.hq, d.ne, d.nn, d.len, d.b0, d.b1⟩
theorem DealAt.toq {H : Hp} {p q : Addr} {ns ms : List Int} {b : Int} (d : DealAt H p q ns b) (hn : ∀ n ∈ ms, 0 ≤ n) (hl : ms.length ≤ 48) :
    DealAt (upd H q (.lst (ms.map V.int))) p q ms b :=
  ⟨by rw [upd_ne d.ne]; exact d.hp, upd_same, d.ne, hn, hl, d.b0, d.b1⟩
theorem DealAt.top {H : Hp} {p q : Addr} {ns : List Int} {b c : Int} (d : DealAt H p q ns b) (h0 : 0 ≤ c) (h1 : c < 2147483647) :
    DealAt (upd H p (.lst [.ref q, .int c])) p q ns c :=
  ⟨upd_same, by rw [upd_ne (Ne.symm d.ne)]; exact d.hq, d.ne, d.nn, d.len, h0, h1⟩
theorem Deal.same {H H' : Hp} {p q : Addr} (d : Deal H p q) (s : Same H H') : Deal H' p q := by
  obtain ⟨ns, b, d⟩ := d
  exact ⟨ns, b, s _ _ d.hp, s _ _ d.hq, d.ne, d.nn, d.len, d.b0, d.b1⟩
def spAny : Sp := fun vs H Q _ => ∃ (p q : Addr) (m : Int), vs = [.ref p, .int m] ∧ Deal H p q ∧ 0 < m ∧ m < 1073741824 ∧
  ∀ H' i, Deal H' p q → Fix p q H H' → 0 ≤ i → i < m → Q (.int i) H'
def spOf (K : PySem.W.Frag) : Sp := fun vs H Q _ => ∃ (p q a : Addr) (xs : List V), vs = [.ref p, .ref a] ∧ Deal H p q ∧ a ≠ p ∧ a ≠ q ∧ H a = some (.lst xs) ∧
  0 < xs.length ∧ xs.length < 1000 ∧ ∀ H' x, x ∈ xs → Deal H' p q → Fix p q H H' → Q x H'
/-! data of a list of ints -/
theorem dpAll_ints (K : PySem.W.Frag) (H : Hp) : ∀ ns : List Int, DpAll K H (ns.map V.int) (ns.map PyData.int)
  | [] => .nil
  | n :: ns => .cons (.int n) (dpAll_ints K H ns)
theorem dp_ints {K : PySem.W.Frag} {H : Hp} {a : Addr} {ns : List Int} (h : H a = some (.lst (ns.map V.int))) : Dp K H (.ref a) (.list (ns.map PyData.int)) :=
  .lst (SqL.of h) (dpAll_ints K H ns)
theorem lay_ints : ∀ ns : List Int, PyData.canLayAll0 (ns.map PyData.int) = true
  | [] => rfl
  | n :: ns => by
    show (PyData.canLay0 (.int n) && PyData.canLayAll0 (ns.map PyData.int)) = true
    rw [lay_ints ns]; rfl
theorem dep_ints : ∀ ns : List Int, PyData.depthAll (ns.map PyData.int) ≤ 1
  | [] => by decide
  | n :: ns => by
    have h := dep_ints ns
    show max (PyData.depth (.int n)) (PyData.depthAll (ns.map PyData.int)) ≤ 1
    have h1 : PyData.depth (.int n) = 0 := rfl
    rw [h1]; omega
theorem sh_ints (ns : List Int) : SeqAt.shaped (.list (ns.map PyData.int)) = true := by
  have h := dep_ints ns
  have h1 : PyData.depth (.list (ns.map PyData.int)) = PyData.depthAll (ns.map PyData.int) + 1 := rfl
  unfold SeqAt.shaped
  have h2 : PyData.canLay0 (.list (ns.map PyData.int)) = PyData.canLayAll0 (ns.map PyData.int) := rfl
  rw [h2, lay_ints, h1, Bool.true_and]
  exact decide_eq_true (by omega)
theorem ne_nil_ints (ns : List Int) : PyData.eqv (.list (ns.map PyData.int)) (.list ([] : List PyData)) = decide (ns = []) := by
  cases ns <;> rfl
section
variable {P : Program} {w : World} {K : PySem.W.Frag} {mg : Str → Option Value} {base : Heap}
theorem ok_any {f : Addr} {fd : FuncData} (F : Fun K "_law_any" "_law_any" s__law_any f fd) (gi : mg "int" = none) : FnOk P w K mg base CX0 1 f fd ["_law_deal", "_law_bound"] spAny := by
  refine F.ok sc__law_any (fun vs H Q E h => ?_) fun cdv A outer s H vs Q E hr h => ⟨_, 
    pss_cons (ps_while PassesOwn.never (PW.pt (pw_and (pt_cmpR (op_neD hr.units) (pe_ix ix_list (pv 0) pe_int (fun _ _ => rfl)) (pe_lst pa_nil) (nomark _))
        (pw_and1 (pt_cmpR op_eq (pe_ix ix_list (pe_ix ix_list (pv 0) pe_int (fun _ _ => rfl)) (pe_un un_neg pe_int) (fun _ _ => rfl)) pe_int (nomark _)))))
      (pss_one (ps_expr (pe_bm0 PySem.F.plainAttrs_list PySem.F.slot_list_pop PySem.F.type_list_pop mt_pop (pe_ix ix_list (pv 0) pe_int (fun _ _ => rfl))))))
    (pss_cons (ps_if (pt_cmpR (op_neD hr.units) (pe_ix ix_list (pv 0) pe_int (fun _ _ => rfl)) (pe_lst pa_nil) (nomark _))
      (pss_cons (ps_set (i := 2) sc__law_any.nd rfl (.inl rfl) (pe_callTy call_int1 (by rfl) gi (by decide +kernel)
          (pa_cons (pe_bm0 PySem.F.plainAttrs_list PySem.F.slot_list_pop PySem.F.type_list_pop mt_pop (pe_ix ix_list (pv 0) pe_int (fun _ _ => rfl))) pa_nil)))
        (pss_cons (ps_expr (pe_bm PySem.F.plainAttrs_list PySem.F.slot_list_append PySem.F.type_list_append mt_append (pe_ix ix_list (pv 0) pe_int (fun _ _ => rfl))
            (pa_cons (pe_op op_fdiv (pv 2) (pv 1)) pa_nil)))
          (pss_one (ps_ret (pe_op op_mod (pv 2) (pv 1)))))) pss_nil)
    (pss_cons (ps_asg (pe_op op_mod (pe_callTy call_int1 (by rfl) gi (by decide +kernel) (pa_cons (pe_op op_add (pe_op op_mul (pe_ix ix_list (pv 0) pe_int (fun _ _ => rfl)) pe_int) pe_int) pa_nil)) pe_int)
        (pg_sub (pv 0) pe_int set_list))
    (pss_one (ps_ret (pe_op op_mod (pe_callTy call_int1 (by rfl) gi (by decide +kernel) (pa_cons (pe_op op_fdiv (pe_ix ix_list (pv 0) pe_int (fun _ _ => rfl)) pe_int) pa_nil)) (pv 1)))))), ?_⟩
  · obtain ⟨p, q, m, rfl, _⟩ := h
    rfl
  · obtain ⟨p, q, m, rfl, ⟨ns, b, d⟩, hm0, hm1, hQ⟩ := h
    refine ⟨fun n σ H' => σ = L2.start ["_law_deal", "_law_bound", "_law_rest"] [.ref p, .int m] ∧ ∃ ns b, DealAt H' p q ns b ∧ Fix p q H H' ∧ n = ns.length, ⟨_, rfl, ns, b, d, Fix.refl _ _ _, rfl⟩, ?_⟩
    rintro n σ H' ⟨rfl, ns, b, d, fx, rfl⟩
    have d1 : ∀ e, H' e = none → DealAt (upd H' e (.lst [])) p q ns b := fun e he => d.new he
    have qe : ∀ e, H' e = none → q ≠ e := fun e he z => by have := d.hq; rw [z, he] at this; cases this
    refine ⟨.ref p, rfl, p, [.ref q, .int b], 0, .ref q, rfl, rfl, SqL.of d.hp, rfl, by show 0 ≤ sizeLine; decide, fun e he => ?_⟩
    refine ⟨_, _, dp_ints (d1 e he).hq, .lst (ds := []) (SqL.of upd_same) .nil, sh_ints ns, by decide, _, rfl, ?_⟩
    rw [ne_nil_ints]
    have fx1 : Fix p q H (upd H' e (.lst [])) := fx.trans (Fix.new he)
    have D1 := d1 e he
    generalize hG : upd H' e (.lst []) = H1 at D1 fx1
    clear hG d d1 qe he fx
    rcases List.eq_nil_or_concat ns with hn | ⟨init, l, hn⟩
    · subst hn
      refine iteF ?_
      refine ⟨.ref p, rfl, p, [.ref q, .int b], 0, .ref q, rfl, rfl, SqL.of D1.hp, rfl, by show 0 ≤ sizeLine; decide, fun e he => ?_⟩
      refine ⟨_, _, dp_ints (D1.new he).hq, .lst (ds := []) (SqL.of upd_same) .nil, sh_ints [], by decide, _, rfl, ?_⟩
      rw [ne_nil_ints]
      refine iteF ?_
      have D2 := D1.new (o := .lst []) he
      have fx2 : Fix p q H (upd H1 e (.lst [])) := fx1.trans (Fix.new he)
      generalize upd H1 e (.lst []) = H2 at D2 fx2
      have D3 := D2.top (c := (b * 40693 + 71) % 2147483647) (Int.emod_nonneg _ (by decide)) (Int.emod_lt_of_pos _ (by decide))
      have fx3 : Fix p q H (upd H2 p (.lst [.ref q, .int ((b * 40693 + 71) % 2147483647)])) := fx2.trans Fix.p
      refine ⟨.ref p, rfl, p, [.ref q, .int b], 1, .int b, rfl, rfl, SqL.of D2.hp, rfl, b, 40693, rfl, rfl, .inr ⟨by decide, by decide⟩, ?_⟩
      refine ⟨_, _, rfl, rfl, .inl ⟨_, rfl, _, _, rfl, rfl, (by decide : (0 : Int) < 2147483647), ?_⟩⟩
      refine ⟨.ref p, rfl, p, [.ref q, .int b], 1, 1, rfl, rfl, D2.hp, rfl, ?_⟩
      refine ⟨.ref p, rfl, p, [.ref q, .int _], 1, .int _, rfl, rfl, SqL.of D3.hp, rfl, _, 64, rfl, rfl, ⟨by decide, by decide⟩, .inl ⟨_, rfl, .int m, rfl, _, m, rfl, rfl, hm0, ?_⟩⟩
      exact hQ _ _ ⟨_, _, D3⟩ fx3 (Int.emod_nonneg _ (by omega)) (Int.emod_lt_of_pos _ hm0)
    · have hn : ns = init ++ [l] := by simpa using hn
      subst hn
      have nz : decide (init ++ [l] = ([] : List Int)) = false := by simp
      rw [nz]
      refine iteT ?_
      have hml : (init ++ [l]).map V.int = init.map V.int ++ [V.int l] := by simp
      have hpop : (init.map V.int ++ [V.int l])[(init.map V.int ++ [V.int l]).length - 1]? = some (V.int l) := by simp
      have hdl : (init.map V.int ++ [V.int l]).dropLast = init.map V.int := by simp
      have l0 : 0 ≤ l := D1.nn l (by simp)
      have len := D1.len
      have len' : init.length + 1 ≤ 48 := by simpa using len
      have hq := D1.hq
      rw [hml] at hq
      refine ⟨.ref p, rfl, p, [.ref q, .int b], 0, .ref q, rfl, rfl, SqL.of D1.hp, rfl, 1, rfl, q, _, -1, V.int l, rfl, rfl, SqL.of hq, atI_last _ _, rfl, _, rfl, ?_⟩
      by_cases hl : l = 0
      · have e1 : decide (V.int l = V.int 0) = true := by rw [hl]; decide
        refine iteT' e1 ?_
        refine ⟨fun σ' H'' => σ' = L2.start ["_law_deal", "_law_bound", "_law_rest"] [.ref p, .int m] ∧ ∃ ns b, DealAt H'' p q ns b ∧ Fix p q H H'' ∧ ns.length = init.length, fun σ' H'' ⟨e, ns, b, h1, h2, h3⟩ => ⟨_, by simpa [h3] using Nat.lt_succ_self init.length, e, ns, b, h1, h2, rfl⟩, ?_⟩
        refine ⟨.ref p, rfl, p, [.ref q, .int b], 0, .ref q, rfl, rfl, SqL.of D1.hp, rfl, .inl ⟨rfl, _, SqL.of hq⟩, q, _, .int l, rfl, rfl, hq, hpop, ?_⟩
        rw [hdl]
        exact ⟨rfl, init, b, D1.toq (fun n hn => D1.nn n (by simp [hn])) (by omega), fx1.trans Fix.q, rfl⟩
      · have e1 : decide (V.int l = V.int 0) = false := by simpa using hl
        refine iteF' e1 ?_
        refine ⟨.ref p, rfl, p, [.ref q, .int b], 0, .ref q, rfl, rfl, SqL.of D1.hp, rfl, by show 0 ≤ sizeLine; decide, fun e he => ?_⟩
        have D2 := D1.new (o := .lst []) he
        refine ⟨_, _, dp_ints D2.hq, .lst (ds := []) (SqL.of upd_same) .nil, sh_ints _, by decide, _, rfl, ?_⟩
        rw [ne_nil_ints, nz]
        refine iteT ?_
        have fx2 : Fix p q H (upd H1 e (.lst [])) := fx1.trans (Fix.new he)
        generalize upd H1 e (.lst []) = H2 at D2 fx2
        have hq2 := D2.hq
        rw [hml] at hq2
        have D3 : DealAt (upd H2 q (.lst (init.map V.int))) p q init b := D2.toq (fun n hn => D1.nn n (by simp [hn])) (by omega)
        have D4 : DealAt (upd (upd H2 q (.lst (init.map V.int))) q (.lst ((init ++ [l / m]).map V.int))) p q (init ++ [l / m]) b := D3.toq (fun n hn => by
          rcases List.mem_append.mp hn with h | h
          · exact D1.nn n (by simp [h])
          · rw [List.mem_singleton.mp h]; exact Int.ediv_nonneg l0 (by omega)) (by simpa using len')
        refine ⟨.ref p, rfl, p, [.ref q, .int b], 0, .ref q, rfl, rfl, SqL.of D2.hp, rfl, .inl ⟨rfl, _, SqL.of hq2⟩, q, _, .int l, rfl, rfl, hq2, hpop, .inl ⟨l, rfl, ?_⟩⟩
        rw [hdl]
        refine ⟨.ref p, rfl, p, [.ref q, .int b], 0, .ref q, rfl, rfl, SqL.of D3.hp, rfl, .inl ⟨rfl, _, SqL.of upd_same⟩, .int l, rfl, .int m, rfl, l, m, rfl, rfl, ⟨hm0, hm1⟩, q, _, _, rfl, rfl, upd_same, ?_, ?_⟩
        · rw [List.length_map]; exact Nat.lt_of_lt_of_le (by omega : init.length < 48) (by decide)
        have ha : init.map V.int ++ [V.int (l / m)] = (init ++ [l / m]).map V.int := by simp
        rw [ha]
        refine ⟨.int l, rfl, .int m, rfl, l, m, rfl, rfl, hm0, ?_⟩
        exact hQ _ _ ⟨_, _, D4⟩ (fx2.trans (Fix.q.trans Fix.q)) (Int.emod_nonneg _ (by omega)) (Int.emod_lt_of_pos _ hm0)
theorem ok_of {f fA : Addr} {fd fdA : FuncData} (F : Fun K "_law_of" "_law_of" s__law_of f fd) (FA : Fun K "_law_any" "_law_any" s__law_any fA fdA) (gA : mg "_law_any" = some (.ref fA))
    (gi : mg "int" = none) (gl : mg "len" = none) : FnOk P w K mg base CX0 2 f fd ["_law_deal", "_law_some"] (spOf K) := by
  refine F.ok sc__law_of (fun vs H Q E h => ?_) fun cdv A outer s H vs Q E hr h => ⟨_, pss_one (ps_ret (pe_ix ix_list (pv 1)
    (pe_call (ok_any FA gi) hr (by rfl) gA FA.kp (FA.binds fun _ _ _ _ _ _ us hl => match us, hl with | [_, _], _ => rfl) .nil pass0 (pa_cons (pv 0) (pa_cons (pe_callB call_len_seq (by rfl) gl (by decide +kernel) (by exact pa_cons (pv 1) pa_nil)) pa_nil))) (fun _ _ => rfl))), ?_⟩
  · obtain ⟨p, q, a, xs, rfl, _⟩ := h
    rfl
  · obtain ⟨p, q, a, xs, rfl, d, n1, n2, ha, h0, h1, hQ⟩ := h
    refine ⟨.ref a, rfl, .ref p, rfl, .ref a, rfl, a, xs, rfl, Or.inl (SqL.of ha), p, q, _, rfl, d, by omega, by omega, fun H' i d' fx i0 i1 => ?_⟩
    obtain ⟨n, rfl⟩ := Int.eq_ofNat_of_zero_le i0
    have hn : n < xs.length := by omega
    exact ⟨a, xs, n, xs[n], rfl, rfl, SqL.of (fx a _ n1 n2 ha), atI_nat (List.getElem?_eq_getElem hn), hQ H' _ (List.getElem_mem hn) d' fx⟩
end

def spDraw (K : PySem.W.Frag) : Sp := fun vs H Q _ => ∃ (a : Addr) (ns : List Int) (t : Int), vs = [.ref a, .int t] ∧ SqL K H a (ns.map V.int) ∧ 0 ≤ t ∧ t < 10000 ∧
  ∀ H' p q, Same H H' → H p = none → H q = none → Deal H' p q → Q (.ref p) H'
theorem cut48 (ns : List Int) : ∃ ms : List Int, cutV (ns.map V.int) none (some 48) = ms.map V.int ∧ ms.length ≤ 48 := by
  refine ⟨(ns.drop 0).take (HT.sIx ns.length ns.length (some 48) - 0), ?_, ?_⟩
  · unfold cutV
    rw [List.length_map, HT.sIx_none, List.map_take, List.map_drop]
  · rw [List.length_take]
    have : HT.sIx ns.length ns.length (some ((48 : Nat) : Int)) = min 48 ns.length := HT.sIx_nat _ _ 48
    have h2 : (some ((48 : Nat) : Int) : Option Int) = some 48 := rfl
    rw [h2] at this
    rw [this]
    omega
theorem Same.new {H : Hp} {a : Addr} {o : HO} (n : H a = none) : Same H (upd H a o) := fun b u h => by
  rw [upd_ne (fun z => by rw [z, n] at h; cases h)]; exact h
section
variable {P : Program} {w : World} {K : PySem.W.Frag} {mg : Str → Option Value} {base : Heap}
theorem ok_draw {f : Addr} {fd : FuncData} (F : Fun K "_law_draw" "_law_draw" s__law_draw f fd) (gi : mg "int" = none) (gab : mg "abs" = none) :
    FnOk P w K mg base CX0 1 f fd ["_law_script", "_law_salt"] (spDraw K) := by
  refine F.ok sc__law_draw (fun vs H Q E h => ?_) fun cdv A outer s H vs Q E hr h => ⟨_,
    pss_cons (ps_setLc (i := 2) (own := [("_law_cell", 4)]) (g := gName 4) (tt := tYes) rfl sc__law_draw.nd rfl rfl (sw_true rfl rfl rfl (by decide +kernel)) (pi_list (pe_slice sl_list (pv 0) po_none (po_some pe_int)))
        (blkOk_by (N := ["_law_script", "_law_salt", "_law_cells", "_law_blend", "_law_cell"]) (sc := defScope s__law_draw) (by decide +kernel)) (fun _ _ _ _ _ => pg_name (i := 4) sc__law_draw.nd rfl (Or.inl rfl)) (fun _ _ _ _ _ => pts_nil)
        (fun _ _ _ _ _ => pe_callB call_abs (by rfl) gab (by decide +kernel) (pa_cons (pe_callTy call_int1 (by rfl) gi (by decide +kernel) (pa_cons (pv 4) pa_nil)) pa_nil)))
    (pss_cons (ps_set (i := 3) sc__law_draw.nd rfl (.inl rfl) (pe_op op_add pe_int (pe_op op_mul pe_int (pv 1))))
    (pss_cons (ps_for PassesOwn.never rfl (pi_list (pv 2)) (pg_name (i := 4) sc__law_draw.nd rfl (Or.inl rfl))
      (pss_one (ps_set (i := 3) sc__law_draw.nd rfl (.inl rfl) (pe_op op_mod (pe_callTy call_int1 (by rfl) gi (by decide +kernel)
        (pa_cons (pe_op op_add (pe_op op_add (pe_op op_mul (pv 3) pe_int) (pe_op op_mod (pv 4) pe_int)) pe_int) pa_nil)) pe_int))))
    (pss_one (ps_ret (pe_lst (pa_cons (pe_revL (pe_lc (own := [("_law_cell", 4)]) (g := gName 4) (by rfl) sc__law_draw.nd (pi_list (pv 2))
        (blkOk_by (own := [("_law_cell", 4)]) (N := ["_law_script", "_law_salt", "_law_cells", "_law_blend", "_law_cell"]) (sc := defScope s__law_draw) (by decide +kernel)) (fun _ _ _ _ _ => pg_name (i := 4) sc__law_draw.nd rfl (Or.inl rfl))
        (fun _ _ _ _ _ => pts_one (pt_cmpR op_ge (pv 4) (pe_op op_pow pe_int pe_int) (nomark _))) (fun _ _ _ _ _ => pv 4))) (pa_cons (pv 3) pa_nil))))))), ?_⟩
  · obtain ⟨a, ns, t, rfl, _⟩ := h
    rfl
  · obtain ⟨a, ns, t, rfl, ha, t0, t1, hQ⟩ := h
    obtain ⟨ms, hms, hlen⟩ := cut48 ns
    refine ⟨.ref a, rfl, 48, rfl, a, _, rfl, ha, fun c hc => ?_⟩
    rw [hms]
    have S1 : Same H (upd H c (.lst (ms.map V.int))) := Same.new hc
    have h1 : upd H c (.lst (ms.map V.int)) c = some (.lst (ms.map V.int)) := upd_same
    generalize upd H c (.lst (ms.map V.int)) = H1 at S1 h1
    refine ⟨c, rfl, ⟨_, SqL.of h1⟩, fun D hD => ?_⟩
    refine lc_list (xs := ms.map V.int) (fun i H' => Same H1 H' ∧ ∃ cs : List Int, H' D = some (.lst (cs.map V.int)) ∧ cs.length = i ∧ ∀ n ∈ cs, 0 ≤ n)
      ⟨Same.new hD, [], upd_same, rfl, by simp⟩ (fun i H' _ p => SqL.of (p.1 _ _ h1)) (fun i x H' hi p => ?_) (fun H' p => ?_)
    · obtain ⟨s1, cs, hc1, hl, h0⟩ := p
      have hi' := (List.getElem?_eq_some_iff.mp hi).1
      rw [List.length_map] at hi'
      rw [List.getElem?_map] at hi
      obtain ⟨n, _, rfl⟩ := Option.map_eq_some_iff.mp hi
      refine ⟨rfl, .int n, rfl, .inl ⟨n, rfl, n, rfl, cs.map V.int, hc1, ?_, ?_, cs ++ [if n < 0 then -n else n], ?_, ?_, ?_⟩⟩
      · rw [List.length_map]; exact Nat.lt_of_lt_of_le (by omega : cs.length < 48) (by decide)
      · exact fun b o h => by
          rw [upd_ne (fun z => ?_)]
          · exact s1 b o h
          · rw [z, hD] at h; cases h
      · rw [upd_same]; simp
      · simp [hl]
      · intro k hk
        rcases List.mem_append.mp hk with hk | hk
        · exact h0 k hk
        · rw [List.mem_singleton.mp hk]; split <;> omega
    · obtain ⟨s1, cs, hc1, hl, h0⟩ := p
      have hl : cs.length ≤ 48 := by rw [hl, List.length_map]; exact hlen
      have S2 := S1.trans s1
      have hDn : H D = none := S1.free hD
      refine ⟨.int t, rfl, 104729, t, rfl, rfl, .inl ⟨by decide, by decide⟩, 7919, _, rfl, rfl, ?_⟩
      refine ⟨.ref D, rfl, D, rfl, ⟨_, SqL.of hc1⟩, for_list (xs := cs.map V.int) (fun i σ H'' => H'' = H' ∧ ∃ b o, σ = [some (.ref a), some (.int t), some (.ref D), some (.int b), o] ∧ 0 ≤ b ∧ b < 2147483647)
        ⟨rfl, 7919 + 104729 * t, _, rfl, by omega, by omega⟩ (fun i σ H'' _ p => by rw [p.1]; exact SqL.of hc1) (fun i x σ H'' hi p => ?_) (fun σ H'' p => ?_)⟩
      · obtain ⟨rfl, b, o, rfl, b0, b1⟩ := p
        rw [List.getElem?_map] at hi
        obtain ⟨n, _, rfl⟩ := Option.map_eq_some_iff.mp hi
        refine ⟨.int b, rfl, b, 48271, rfl, rfl, .inr ⟨by decide, by decide⟩, .int n, rfl, n, 2147483549, rfl, rfl, (by decide : (0 : Int) < 2147483549), _, _, rfl, rfl, _, 11, rfl, rfl, .inl ⟨_, rfl, _, 2147483647, rfl, rfl, (by decide : (0 : Int) < 2147483647), ?_⟩⟩
        exact ⟨rfl, _, _, rfl, Int.emod_nonneg _ (by decide), Int.emod_lt_of_pos _ (by decide)⟩
      · obtain ⟨rfl, b, o, rfl, b0, b1⟩ := p
        refine ⟨.ref D, rfl, D, rfl, ⟨_, SqL.of hc1⟩, fun D2 hD2 => ?_⟩
        refine lc_list (xs := cs.map V.int) (fun i H2 => Same H'' H2 ∧ ∃ es : List Int, H2 D2 = some (.lst (es.map V.int)) ∧ es.length ≤ i ∧ ∀ n ∈ es, 0 ≤ n)
          ⟨Same.new hD2, [], upd_same, Nat.le_refl _, by simp⟩ (fun i H2 _ p => SqL.of (p.1 _ _ hc1)) (fun i x H2 hi p => ?_) (fun H2 p => ?_)
        · obtain ⟨s1, es, he1, hl, h0'⟩ := p
          have hi' := (List.getElem?_eq_some_iff.mp hi).1
          rw [List.length_map] at hi'
          rw [List.getElem?_map] at hi
          obtain ⟨n, hn, rfl⟩ := Option.map_eq_some_iff.mp hi
          have hmem := List.mem_of_getElem? hn
          refine ⟨rfl, .int n, rfl, 10, 18, rfl, rfl, ⟨by decide, by decide, by decide⟩, n, _, rfl, rfl, _, rfl, ?_⟩
          by_cases hb : decide ((10 : Int) ^ (18 : Int).toNat ≤ n) = true
          · refine iteT' hb ⟨.int n, rfl, es.map V.int, he1, ?_, ?_, es ++ [n], ?_, ?_, ?_⟩
            · rw [List.length_map]; exact Nat.lt_of_lt_of_le (by omega : es.length < 48) (by decide)
            · exact fun b o h => by
                rw [upd_ne (fun z => ?_)]
                · exact s1 b o h
                · rw [z, hD2] at h; cases h
            · rw [upd_same]; simp
            · simp; omega
            · intro k hk
              rcases List.mem_append.mp hk with hk | hk
              · exact h0' k hk
              · rw [List.mem_singleton.mp hk]; exact h0 n hmem
          · exact iteF' (by simpa using hb) ⟨s1, es, he1, by omega, h0'⟩
        · obtain ⟨s1, es, he1, hl2, h0'⟩ := p
          rw [List.length_map] at hl2
          refine ⟨D2, _, rfl, SqL.of he1, fun q hq => ?_⟩
          refine ⟨.int b, rfl, by show 2 ≤ sizeLine; decide, fun p hp => ?_⟩
          have S3 := (S2.trans s1).trans (Same.new (o := .lst (es.map V.int).reverse) hq)
          have hqp : p ≠ q := fun z => by rw [z, upd_same] at hp; cases hp
          refine hQ _ p q (S3.trans (Same.new hp)) ((S3).free hp) ((S2.trans s1).free hq) ⟨es.reverse, b, upd_same, ?_, hqp, fun n hn => h0' n (by simpa using hn), by simp; omega, b0, b1⟩
          rw [upd_ne (Ne.symm hqp), upd_same, List.map_reverse]
end
end K71

namespace K71
open PySem PySem.Spec PyProof.Rows L2 KX
/-! ### classes of values -/
theorem tyx_same {K : PySem.W.Frag} {H H' : Hp} {x : V} {t : Value} (h : TyX K H x t) (s : Same H H') : TyX K H' x t := by
  cases h with
  | base h =>
    refine .base ?_
    cases h with
    | lst e => exact .lst (s _ _ e)
    | frz e => exact .frz (s _ _ e)
    | tup e => exact .tup (s _ _ e)
    | dK e => exact .dK (s _ _ e)
    | dT e => exact .dT (s _ _ e)
    | ins e a b c d f => exact .ins (s _ _ e) a b c d f
    | _ => constructor
  | byt b => exact .byt b
  | set e => exact .set (s _ _ e)
  | kList e c => exact .kList e c
  | kTuple e c => exact .kTuple e c
  | kDict e c => exact .kDict e c
  | fTuple e => exact .fTuple (s _ _ e)
  | fDict e => exact .fDict (s _ _ e)
theorem kin_same {K : PySem.W.Frag} {H H' : Hp} {x : V} {o : Option Int} (h : Kin K H x o) (s : Same H H') : Kin K H' x o := by
  cases h with
  | int i => exact .int i
  | oth t h1 h2 h3 => exact .oth (tyx_same t s) h1 h2 h3
theorem kins_same {K : PySem.W.Frag} {H H' : Hp} {xs : List V} {os : List (Option Int)} (h : Paired (Kin K H) xs os) (s : Same H H') : Paired (Kin K H') xs os := by
  induction h with
  | nil => exact .nil
  | cons a _ ih => exact .cons (kin_same a s) ih
inductive SqX (K : PySem.W.Frag) (H : Hp) : V → Option (List V) → Prop
  | lst {a : Addr} {xs : List V} (h : H a = some (.lst xs)) : SqX K H (.ref a) (some xs)
  | tup {a : Addr} {xs : List V} (h : Tup H a xs) : SqX K H (.ref a) (some xs)
  | oth {x : V} {n : String} (t : TyX K H x (.type n)) (h1 : kitB n "list" = some false) (h2 : kitB n "tuple" = some false) : SqX K H x none
theorem sqx_same {K : PySem.W.Frag} {H H' : Hp} {x : V} {o : Option (List V)} (h : SqX K H x o) (s : Same H H') : SqX K H' x o := by
  cases h with
  | lst h => exact .lst (s _ _ h)
  | tup h => exact .tup (h.same s)
  | oth t h1 h2 => exact .oth (tyx_same t s) h1 h2
theorem SqX.ty {K : PySem.W.Frag} {H : Hp} {x : V} {o : Option (List V)} (h : SqX K H x o) : ∃ n b1 b2, TyX K H x (.type n) ∧ kitB n "list" = some b1 ∧ kitB n "tuple" = some b2 ∧ (b1 || b2) = o.isSome := by
  cases h with
  | lst h => exact ⟨"list", true, false, .base (.lst h), by decide +kernel, by decide +kernel, rfl⟩
  | tup h => exact ⟨"tuple", false, true, h.ty, by decide +kernel, by decide +kernel, rfl⟩
  | oth t h1 h2 => exact ⟨_, _, _, t, h1, h2, rfl⟩
theorem kit_any {K : PySem.W.Frag} {n : String} {b1 b2 : Bool} (h1 : kitB n "list" = some b1) (h2 : kitB n "tuple" = some b2) :
    PySem.W.kitAny K (.type n) [.type "list", .type "tuple"] = some (b1 || b2) := by
  have k1 : PySem.W.kitOne K (.type n) (.type "list") = some b1 := kit_ty h1
  have k2 : PySem.W.kitOne K (.type n) (.type "tuple") = some b2 := kit_ty h2
  unfold PySem.W.kitAny
  rw [k1]
  cases b1 with
  | true => rfl
  | false =>
    show PySem.W.kitAny K (.type n) [.type "tuple"] = some b2
    unfold PySem.W.kitAny
    rw [k2]
    cases b2 <;> rfl
def numB : Option Int → Bool
  | some i => decide (0 ≤ i)
  | none => false
def belB (o : Option Int) (n : Int) : Bool := match o with
  | some i => decide (0 ≤ i) && decide (i < n)
  | none => false
abbrev bel4 (o : Option Int) : Bool := belB o 4
/-! ### what the defs do -/
def spIsInt (K : PySem.W.Frag) : Sp := fun vs H Q _ => ∃ x o, vs = [x] ∧ Kin K H x o ∧ Q (.bl o.isSome) H
def spNum (K : PySem.W.Frag) : Sp := fun vs H Q _ => ∃ x o, vs = [x] ∧ Kin K H x o ∧ Q (.bl (numB o)) H
def spBelow (K : PySem.W.Frag) : Sp := fun vs H Q _ => ∃ x o, ∃ n : Int, vs = [x, .int n] ∧ Kin K H x o ∧ Q (.bl (belB o n)) H
def spMode (K : PySem.W.Frag) : Sp := fun vs H Q _ => ∃ x o, vs = [x] ∧ Kin K H x o ∧ Q (.bl (bel4 o)) H
def spSeq (K : PySem.W.Frag) : Sp := fun vs H Q _ => ∃ x o, vs = [x] ∧ SqX K H x o ∧ ∀ H', Same H H' → Q (.bl o.isSome) H'
section
variable {P : Program} {w : World} {K : PySem.W.Frag} {mg : Str → Option Value} {base : Heap} {f1 f2 f3 : Addr} {d1 d2 d3 : FuncData} {f : Addr} {fd : FuncData}
theorem ok_int (F : Fun K "is_integer" "is_integer" s_is_integer f fd) (gI : mg "isinstance" = none)
    (gi : mg "int" = none) (gb : mg "bool" = none) : FnOk P w K mg base CX0 1 f fd ["value"] (spIsInt K) := by
  refine F.ok sc_is_integer (fun vs H Q E h => ?_) fun cdv A outer s H vs Q E hr h => ⟨_, pss_one (ps_ret (pe_and
      (pe_callB call_isi (by rfl) gI (by decide +kernel) (by exact pa_cons (pv 0) (pa_cons (pe_bltn (v := .ty "int") rfl gi (by decide +kernel) rfl) pa_nil)))
      (pe_one (pe_not (pe_callB call_isi (by rfl) gI (by decide +kernel)
        (by exact pa_cons (pv 0) (pa_cons (pe_bltn (v := .ty "bool") rfl gb (by decide +kernel) rfl) pa_nil))))))), ?_⟩
  · obtain ⟨x, o, rfl, _⟩ := h
    rfl
  · obtain ⟨x, o, rfl, hk, hQ⟩ := h
    obtain ⟨n, b1, b2, ty, k1, k2, e⟩ := hk.ty
    refine ⟨_, rfl, x, .ty "int", _, _, b1, rfl, .ty "int", ty, kit_ty k1, b1, rfl, ?_⟩
    rw [← e] at hQ
    cases b1 with
    | false => exact iteF hQ
    | true => exact iteT ⟨_, rfl, x, .ty "bool", _, _, b2, rfl, .ty "bool", ty, kit_ty k2, b2, rfl, hQ⟩
theorem ok_num (F : Fun K "is_number" "is_number" s_is_number f fd) (F1 : Fun K "is_integer" "is_integer" s_is_integer f1 d1) (G1 : FnOk P w K mg base CX0 1 f1 d1 ["value"] (spIsInt K))
    (g1 : mg "is_integer" = some (.ref f1)) : FnOk P w K mg base CX0 2 f fd ["value"] (spNum K) := by
  refine F.ok sc_is_number (fun vs H Q E h => ?_) fun cdv A outer s H vs Q E hr h => ⟨_, pss_one (ps_ret (pe_and
      (pe_call G1 hr (by rfl) g1 F1.kp (F1.binds fun _ _ _ _ _ _ us hl => match us, hl with | [_], _ => rfl) .nil pass0 (by exact pa_cons (pv 0) pa_nil))
      (pe_one (pe_cmpR op_ge (pv 0) pe_int (nomark _))))), ?_⟩
  · obtain ⟨x, o, rfl, _⟩ := h
    rfl
  · obtain ⟨x, o, rfl, hk, hQ⟩ := h
    refine ⟨x, rfl, x, o, rfl, hk, o.isSome, rfl, ?_⟩
    cases hk with
    | int i => exact iteT ⟨.int i, rfl, i, 0, rfl, rfl, hQ⟩
    | oth t h1 h2 h3 => exact iteF hQ
theorem ok_below (F : Fun K "is_below" "is_below" s_is_below f fd) (F1 : Fun K "is_number" "is_number" s_is_number f1 d1) (G1 : FnOk P w K mg base CX0 2 f1 d1 ["value"] (spNum K))
    (g1 : mg "is_number" = some (.ref f1)) : FnOk P w K mg base CX0 3 f fd ["value", "limit"] (spBelow K) := by
  refine F.ok sc_is_below (fun vs H Q E h => ?_) fun cdv A outer s H vs Q E hr h => ⟨_, pss_one (ps_ret (pe_and
      (pe_call G1 hr (by rfl) g1 F1.kp (F1.binds fun _ _ _ _ _ _ us hl => match us, hl with | [_], _ => rfl) .nil pass0 (by exact pa_cons (pv 0) pa_nil))
      (pe_one (pe_cmpR op_lt (pv 0) (pv 1) (nomark _))))), ?_⟩
  · obtain ⟨x, o, n, rfl, _⟩ := h
    rfl
  · obtain ⟨x, o, n, rfl, hk, hQ⟩ := h
    refine ⟨x, rfl, x, o, rfl, hk, numB o, rfl, ?_⟩
    cases hk with
    | int i =>
      have e : belB (some i) n = (decide (0 ≤ i) && decide (i < n)) := rfl
      rw [e] at hQ
      by_cases h0 : 0 ≤ i
      · rw [decide_eq_true h0, Bool.true_and] at hQ
        exact iteT' (decide_eq_true h0) ⟨.int i, rfl, .int n, rfl, i, n, rfl, rfl, hQ⟩
      · rw [decide_eq_false h0, Bool.false_and] at hQ
        exact iteF' (decide_eq_false h0) hQ
    | oth t h1 h2 h3 => exact iteF hQ
theorem ok_mode (F : Fun K "is_mode" "is_mode" s_is_mode f fd) (F1 : Fun K "is_below" "is_below" s_is_below f1 d1) (G1 : FnOk P w K mg base CX0 3 f1 d1 ["value", "limit"] (spBelow K))
    (g1 : mg "is_below" = some (.ref f1)) {t : Tok} (gm : mg "MOST_MODES" = some (.int 4 t)) : FnOk P w K mg base CX0 4 f fd ["value"] (spMode K) := by
  refine F.ok sc_is_mode (fun vs H Q E h => ?_) fun cdv A outer s H vs Q E hr h => ⟨_, pss_one (ps_ret
      (pe_call G1 hr (by rfl) g1 F1.kp (F1.binds fun _ _ _ _ _ _ us hl => match us, hl with | [_, _], _ => rfl) .nil pass0 (by exact pa_cons (pv 0) (pa_cons (pe_glob (v := .int 4) rfl gm ⟨_, rfl⟩) pa_nil)))), ?_⟩
  · obtain ⟨x, o, rfl, _⟩ := h
    rfl
  · obtain ⟨x, o, rfl, hk, hQ⟩ := h
    exact ⟨x, rfl, x, o, 4, rfl, hk, hQ⟩
theorem ok_seq (F : Fun K "is_sequence" "is_sequence" s_is_sequence f fd) (gI : mg "isinstance" = none) (gl : mg "list" = none) (gt : mg "tuple" = none) :
    FnOk P w K mg base CX0 1 f fd ["value"] (spSeq K) := by
  refine F.ok sc_is_sequence (fun vs H Q E h => ?_) fun cdv A outer s H vs Q E hr h => ⟨_, pss_one (ps_ret
      (pe_callB call_isiT (by rfl) gI (by decide +kernel) (by exact pa_cons (pv 0) (pa_cons (pe_tup (pa_cons (pe_bltn (v := .ty "list") rfl gl (by decide +kernel) rfl)
        (pa_cons (pe_bltn (v := .ty "tuple") rfl gt (by decide +kernel) rfl) pa_nil))) pa_nil)))), ?_⟩
  · obtain ⟨x, o, rfl, _⟩ := h
    rfl
  · obtain ⟨x, o, rfl, hk, hQ⟩ := h
    refine ⟨x, rfl, by show 2 ≤ sizeLine; decide, fun p hp => ?_⟩
    have S : Same H (upd H p (.tup [.ty "list", .ty "tuple"])) := Same.new hp
    obtain ⟨n, b1, b2, ty, k1, k2, e⟩ := (sqx_same hk S).ty
    refine ⟨x, p, _, _, [.type "list", .type "tuple"], b1 || b2, rfl, upd_same, .cons (.ty "list") (.cons (.ty "tuple") .nil), ty, kit_any k1 k2, ?_⟩
    rw [e]
    exact hQ _ S
end
section
variable {P : Program} {w : World} {K : PySem.W.Frag} {mg : Str → Option Value} {base : Heap} (T : TX K mg)
theorem G_is_integer : FnOk P w K mg base CX0 1 T.f_is_integer T.d_is_integer ["value"] (spIsInt K) := ok_int T.F_is_integer T.n_isinstance T.n_int T.n_bool
theorem G_is_number : FnOk P w K mg base CX0 2 T.f_is_number T.d_is_number ["value"] (spNum K) := ok_num T.F_is_number T.F_is_integer (G_is_integer T) T.m_is_integer
theorem G_is_below : FnOk P w K mg base CX0 3 T.f_is_below T.d_is_below ["value", "limit"] (spBelow K) := ok_below T.F_is_below T.F_is_number (G_is_number T) T.m_is_number
theorem G_is_mode : FnOk P w K mg base CX0 4 T.f_is_mode T.d_is_mode ["value"] (spMode K) := ok_mode T.F_is_mode T.F_is_below (G_is_below T) T.m_is_below T.m_MOST_MODES
theorem G_is_sequence : FnOk P w K mg base CX0 1 T.f_is_sequence T.d_is_sequence ["value"] (spSeq K) := ok_seq T.F_is_sequence T.n_isinstance T.n_list T.n_tuple
theorem G__law_any : FnOk P w K mg base CX0 1 T.f__law_any T.d__law_any ["_law_deal", "_law_bound"] spAny := ok_any T.F__law_any T.n_int
theorem G__law_of : FnOk P w K mg base CX0 2 T.f__law_of T.d__law_of ["_law_deal", "_law_some"] (spOf K) := ok_of T.F__law_of T.F__law_any T.m__law_any T.n_int T.n_len
theorem G__law_draw : FnOk P w K mg base CX0 1 T.f__law_draw T.d__law_draw ["_law_script", "_law_salt"] (spDraw K) := ok_draw T.F__law_draw T.n_int T.n_abs
end
end K71

namespace KX
open PySem PySem.Spec PyProof.Rows L2
theorem PG.or {X : Cx} {tg : Expr} {w1 w2 : TG} (h1 : PG X tg w1) (h2 : PG X tg w2) : PG X tg (fun v σ H Q => w1 v σ H Q ∨ w2 v σ H Q) :=
  ⟨fun pins s σ H v u Q I r h => h.elim (h1.run pins s σ H v u Q I r) (h2.run pins s σ H v u Q I r)⟩
theorem inV_ints (b : Int) : ∀ row : List Int, inV (.int b) (row.map V.int) = decide (b ∈ row)
  | [] => rfl
  | x :: row => by
    have h := inV_ints b row
    show (eqV (.int x) (.int b) || inV (.int b) (row.map V.int)) = _
    rw [h]
    have e : eqV (.int x) (.int b) = decide (x = b) := by
      first
        | rfl
        | (simp [eqV])
    rw [e]
    by_cases z : x = b
    · simp [z]
    · have z' : ¬ b = x := fun q => z q.symm
      simp [z, z']
theorem flat_ints : ∀ row : List Int, (row.map V.int).all flatV = true
  | [] => rfl
  | x :: row => by
    show (flatV (.int x) && (row.map V.int).all flatV) = true
    rw [flat_ints row]; rfl
theorem rd_notInI {K : PySem.W.Frag} {H : Hp} {p : Addr} {row : List Int} {b : Int} {Q : VK} (ha : SqL K H p (row.map V.int) ∨ SqT K H p (row.map V.int)) (h : Q (.bl (!decide (b ∈ row))) H) : rIn K true (.int b) (.ref p) H Q :=
  ⟨p, _, rfl, ha, rfl, flat_ints row, by rw [inV_ints]; exact h⟩
theorem rd_inI {K : PySem.W.Frag} {H : Hp} {p : Addr} {row : List Int} {b : Int} {Q : VK} (ha : SqL K H p (row.map V.int) ∨ SqT K H p (row.map V.int)) (h : Q (.bl (decide (b ∈ row))) H) : rIn K false (.int b) (.ref p) H Q :=
  ⟨p, _, rfl, ha, rfl, flat_ints row, by rw [inV_ints]; exact h⟩
end KX
namespace K71
open PySem PySem.Spec PyProof.Rows L2 KX
local macro_rules | `(tactic| walk_at "rd1") => `(tactic| first
  | with_reducible refine rd_seq ?_
  | with_reducible refine rd_asg ?_
  | ((with_reducible refine' rd_var ?rdv ?_); (case rdv => exact rfl))
  | with_reducible refine rd_c ?_
  | with_reducible refine rd_op ?_
  | with_reducible refine rd_un ?_
  | with_reducible refine rd_cons ?_
  | with_reducible refine rd_nil ?_
  | with_reducible refine rd_call ?_
  | with_reducible refine rd_cb ?_
  | with_reducible refine rd_tB ?_
  | with_reducible refine rd_test ?_
  | with_reducible refine rd_bl ?_
  | with_reducible refine rd_rI0 ?_
  | with_reducible refine rd_eqI ?_
  | with_reducible refine rd_neI ?_
  | with_reducible refine rd_rU ?_
  | with_reducible refine rd_name ?_
  | with_reducible refine rd_ifs ?_
  | with_reducible refine rd_and ?_
  | with_reducible refine rd_or ?_
  | with_reducible refine rd_not ?_
  | with_reducible refine rd_yes ?_
  | with_reducible refine rd_andV ?_
  | with_reducible refine rd_orV ?_
  | with_reducible refine rd_notV ?_
  | with_reducible refine rd_if ?_
  | with_reducible refine rd_isN ?_
  | with_reducible refine rd_iT ?_
  | with_reducible refine rd_iF ?_
  | with_reducible refine rd_ret ?_
  | with_reducible refine rd_retN ?_
  | with_reducible refine rd_drop ?_
  | with_reducible refine rd_next ?_
  | with_reducible refine rd_cont ?_
  | with_reducible refine rd_brk ?_
  | with_reducible refine rd_nx ?_
  | with_reducible refine rd_rt ?_
  | with_reducible refine rd_ct ?_
  | with_reducible refine rd_bk ?_
  | with_reducible refine rd_par ?_
  | with_reducible refine rd_par3 ?_
  | with_reducible refine rd_par2 ?_
  | with_reducible refine rd_par33 ?_
  | with_reducible refine rd_gcons ?_
  | with_reducible refine rd_gnil ?_
  | with_reducible refine rd_sub ?_
  | with_reducible refine rd_tup ?_
  | with_reducible refine rd_lst ?_
  | ((with_reducible refine rd_tupT ?hl ?_); (case hl => exact Nat.le_of_ble_eq_true rfl))
  | ((with_reducible refine rd_lstT ?hl ?_); (case hl => exact Nat.le_of_ble_eq_true rfl))
  | with_reducible refine rd_bm ?_
  | with_reducible refine rd_bm0 ?_
  | with_reducible refine rd_sl ?_
  | with_reducible refine rd_noP ?_
  | with_reducible refine rd_part ?_
  | with_reducible refine rd_int ?_
  | with_reducible refine rd_int1 ?_
  | with_reducible refine rd_fld ?_
  | with_reducible refine rd_then ?_
  | with_reducible refine rd_raise ?_
  | with_reducible refine rd_one ?_
  | with_reducible refine rd_sfld ?_
  | with_reducible refine rd_ilist ?_
  | with_reducible refine rd_itup ?_
  | with_reducible refine rd_rng1 ?_
  | with_reducible refine rd_enum ?_
  | with_reducible refine rd_enumT ?_)
local macro_rules | `(tactic| walk_at "rd") => `(tactic| repeat (walk_at "rd1"))
/-! ### the rows of neighbours -/
def rowOf (R : List (List Int)) (a : Int) : List Int := R.getD a.toNat []
def okL (R : List (List Int)) : Option (Int × Int) → Bool
  | none => false
  | some (a, b) => !decide (b ∈ rowOf R a) && (decide ((rowOf R a).length < 4) && decide ((rowOf R b).length < 4))
def appR (R : List (List Int)) (a b : Int) : List (List Int) := R.set a.toNat (rowOf R a ++ [b])
def addR (R : List (List Int)) : Option (Int × Int) → List (List Int)
  | none => R
  | some (a, b) => appR (appR R a b) b a
/-- one entry more, if it can be linked -/
def stepL (R : List (List Int)) (e : Option (Int × Int)) : Option (List (List Int)) := if okL R e = true then some (addR R e) else none
def runP (R : List (List Int)) : List (Option (Int × Int)) → Option (List (List Int))
  | [] => some R
  | e :: es => (stepL R e).bind fun R' => runP R' es
/-- the rows stand at rs -/
structure Rows (H : Hp) (N : Addr) (rs : List Addr) (R : List (List Int)) : Prop where
  at_ : H N = some (.lst (rs.map V.ref))
  rows : Paired (fun r (row : List Int) => H r = some (.lst (row.map V.int))) rs R
  nd : rs.Nodup
  out : N ∉ rs
theorem Rows.same {H H' : Hp} {N : Addr} {rs : List Addr} {R : List (List Int)} (h : Rows H N rs R) (s : Same H H') : Rows H' N rs R :=
  ⟨s _ _ h.at_, by
    have h2 := h.rows
    clear h
    induction h2 with
    | nil => exact .nil
    | cons a _ ih => exact .cons (s _ _ a) ih, h.nd, h.out⟩
/-- what an entry of the links is, among n sites -/
inductive LkIs (K : PySem.W.Frag) (H : Hp) (n : Nat) : V → Option (Int × Int) → Prop
  | seq {x : V} (s : SqX K H x none) : LkIs K H n x none
  | len {x : V} {xs : List V} (s : SqX K H x (some xs)) (l : xs.length ≠ 2) : LkIs K H n x none
  | fst {x y z : V} {o : Option Int} (s : SqX K H x (some [y, z])) (k : Kin K H y o) (b : belB o n = false) : LkIs K H n x none
  | snd {x y z : V} {o o' : Option Int} (s : SqX K H x (some [y, z])) (k : Kin K H y o) (k' : Kin K H z o') (b : belB o' n = false) : LkIs K H n x none
  | eq {x : V} {a : Int} (s : SqX K H x (some [.int a, .int a])) (a0 : 0 ≤ a) (a1 : a < n) : LkIs K H n x none
  | ok {x : V} {a b : Int} (s : SqX K H x (some [.int a, .int b])) (a0 : 0 ≤ a) (a1 : a < n) (b0 : 0 ≤ b) (b1 : b < n) (ne : a ≠ b) : LkIs K H n x (some (a, b))
theorem LkIs.same {K : PySem.W.Frag} {H H' : Hp} {n : Nat} {x : V} {e : Option (Int × Int)} (h : LkIs K H n x e) (s : Same H H') : LkIs K H' n x e := by
  cases h with
  | seq h => exact .seq (sqx_same h s)
  | len h l => exact .len (sqx_same h s) l
  | fst h k b => exact .fst (sqx_same h s) (kin_same k s) b
  | snd h k k' b => exact .snd (sqx_same h s) (kin_same k s) (kin_same k' s) b
  | eq h a b => exact .eq (sqx_same h s) a b
  | ok h a b c d e => exact .ok (sqx_same h s) a b c d e
theorem belB_true {a : Int} {n : Nat} (h0 : 0 ≤ a) (h1 : a < n) : belB (some a) n = true := by
  show (decide (0 ≤ a) && decide (a < (n : Int))) = true
  rw [decide_eq_true h0, decide_eq_true h1]; rfl
theorem SqX.any {K : PySem.W.Frag} {H : Hp} {x : V} {xs : List V} (h : SqX K H x (some xs)) : ∃ a, x = .ref a ∧ (SqL K H a xs ∨ SqT K H a xs) := by
  cases h with
  | lst h => exact ⟨_, rfl, .inl (SqL.of h)⟩
  | tup h => exact ⟨_, rfl, .inr h.sq⟩
theorem SqX.unp {K : PySem.W.Frag} {H : Hp} {a : Addr} {xs : List V} {n : Nat} {t : TGs} {σ : L2.St} {Q : L2.St → Hp → Prop} (h : SqX K H (.ref a) (some xs)) (e : xs.length = n) (q : t xs σ H Q) : gTup K n t (.ref a) σ H Q ∨ gLst K n t (.ref a) σ H Q := by
  cases h with
  | lst h => exact .inr (rd_glst h e q)
  | tup h => exact .inl (rd_gtup h e q)
def spCan (K : PySem.W.Frag) : Sp := fun vs H Q _ => ∃ (N : Addr) (rs : List Addr) (R : List (List Int)) (x : V) (e : Option (Int × Int)), vs = [.ref N, x] ∧ Rows H N rs R ∧ LkIs K H rs.length x e ∧
  ∀ H', Same H H' → Q (.bl (okL R e)) H'
theorem rowOf_get {R : List (List Int)} {a : Int} (h1 : a.toNat < R.length) : R[a.toNat]? = some (rowOf R a) := by
  unfold rowOf
  rw [List.getD_eq_getElem?_getD, List.getElem?_eq_getElem h1]; rfl
theorem Rows.get {H : Hp} {N : Addr} {rs : List Addr} {R : List (List Int)} (h : Rows H N rs R) {a : Int} (a0 : 0 ≤ a) (a1 : a < rs.length) :
    ∃ r, rs[a.toNat]? = some r ∧ H r = some (.lst ((rowOf R a).map V.int)) ∧ atI (rs.map V.ref) a = some (.ref r) := by
  have hl : a.toNat < rs.length := by omega
  have e := List.getElem?_eq_getElem hl
  have z : rs.length = R.length := Paired.length h.rows
  refine ⟨rs[a.toNat], e, ?_, ?_⟩
  · have q := h.rows
    obtain ⟨y, hy, hq⟩ : ∃ y, R[a.toNat]? = some y ∧ H rs[a.toNat] = some (.lst (y.map V.int)) := by
      have gen : ∀ {l : List Addr} {m : List (List Int)}, Paired (fun r (row : List Int) => H r = some (.lst (row.map V.int))) l m → ∀ i (h : i < l.length), ∃ y, m[i]? = some y ∧ H l[i] = some (.lst (y.map V.int)) := by
        intro l m p
        induction p with
        | nil => intro i h; simp at h
        | @cons x y l m hxy _ ih =>
          intro i h
          cases i with
          | zero => exact ⟨y, rfl, hxy⟩
          | succ j => exact ih j (by simpa using h)
      exact gen q a.toNat hl
    rw [rowOf_get (by omega)] at hy
    cases hy
    exact hq
  · obtain ⟨n, rfl⟩ := Int.eq_ofNat_of_zero_le a0
    have e' : rs[n]? = some rs[n] := e
    exact atI_nat (by rw [List.getElem?_map, e']; rfl)
section
variable {P : Program} {w : World} {K : PySem.W.Frag} {mg : Str → Option Value} {base : Heap} (T : TX K mg)
theorem G_can_link : FnOk P w K mg base CX0 4 T.f_can_link T.d_can_link ["near", "link"] (spCan K) := by
  refine T.F_can_link.ok sc_can_link (fun vs H Q E h => ?_) fun cdv A outer s H vs Q E hr h => ⟨_, (pss_cons (ps_if (PW.pt (pw_or (pt_not (pt_val (pe_call (G_is_sequence T) (hr.mono (by decide)) (by rfl) T.m_is_sequence T.F_is_sequence.kp T.b_is_sequence .nil pass0 (by exact (pa_cons (pv 1) pa_nil))))) (pw_or1 (pt_cmpR op_ne (pe_callB (cr_lenK (K := K)) (by rfl) T.n_len (by decide +kernel) (by exact (pa_cons (pv 1) pa_nil))) pe_int (nomark _))))) (pss_one (ps_ret pe_bl)) pss_nil) (pss_cons (ps_asg (pv 1) (KX.PG.or (pg_tupK (K := K) (n := 2) (by rfl) (pgs_cons (pg_name (i := 2) sc_can_link.nd rfl (.inl rfl)) (pgs_cons (pg_name (i := 3) sc_can_link.nd rfl (.inl rfl)) pgs_nil))) (pg_lstK (K := K) (n := 2) (by rfl) (pgs_cons (pg_name (i := 2) sc_can_link.nd rfl (.inl rfl)) (pgs_cons (pg_name (i := 3) sc_can_link.nd rfl (.inl rfl)) pgs_nil))))) (pss_cons (ps_if (PW.pt (pw_or (pt_not (pt_val (pe_call (G_is_below T) (hr.mono (by decide)) (by rfl) T.m_is_below T.F_is_below.kp T.b_is_below .nil pass0 (by exact (pa_cons (pv 2) (pa_cons (pe_callB (cr_lenK (K := K)) (by rfl) T.n_len (by decide +kernel) (by exact (pa_cons (pv 0) pa_nil))) pa_nil)))))) (pw_or (pt_not (pt_val (pe_call (G_is_below T) (hr.mono (by decide)) (by rfl) T.m_is_below T.F_is_below.kp T.b_is_below .nil pass0 (by exact (pa_cons (pv 3) (pa_cons (pe_callB (cr_lenK (K := K)) (by rfl) T.n_len (by decide +kernel) (by exact (pa_cons (pv 0) pa_nil))) pa_nil)))))) (pw_or1 (pt_cmpR op_eq (pv 2) (pv 3) (nomark _)))))) (pss_one (ps_ret pe_bl)) pss_nil) (pss_one (ps_ret (pe_and (pe_cmpR (op_notInK (K := K)) (pv 3) (pe_ix (ix_listK (K := K)) (pv 0) (pv 2) (fun _ _ => rfl)) (by rfl)) (pe_and (pe_cmpR op_lt (pe_callB (cr_lenK (K := K)) (by rfl) T.n_len (by decide +kernel) (by exact (pa_cons (pe_ix (ix_listK (K := K)) (pv 0) (pv 2) (fun _ _ => rfl)) pa_nil))) (pe_glob (v := .int 4) rfl T.m_MOST_NEIGHBOURS ⟨_, rfl⟩) (nomark _)) (pe_one (pe_cmpR op_lt (pe_callB (cr_lenK (K := K)) (by rfl) T.n_len (by decide +kernel) (by exact (pa_cons (pe_ix (ix_listK (K := K)) (pv 0) (pv 3) (fun _ _ => rfl)) pa_nil))) (pe_glob (v := .int 4) rfl T.m_MOST_NEIGHBOURS ⟨_, rfl⟩) (nomark _)))))))))), ?_⟩
  · obtain ⟨N, rs, R, x, e, rfl, _⟩ := h
    rfl
  · obtain ⟨N, rs, R, x, e, rfl, hR, hx, hQ⟩ := h
    cases hx with
    | seq h =>
      walk_at "rd"
      refine ⟨_, _, rfl, h, fun H1 S1 => ?_⟩
      walk_at "rd"
      exact hQ H1 S1
    | @len xs h l =>
      walk_at "rd"
      refine ⟨_, _, rfl, h, fun H1 S1 => ?_⟩
      have h1 := sqx_same h S1
      walk_at "rd"
      refine rd_iF ?_
      walk_at "rd"
      obtain ⟨a, rfl, hs⟩ := h1.any
      refine rd_lenB hs ?_
      walk_at "rd"
      refine iteT' (by simp; omega) ?_
      walk_at "rd"
      exact hQ H1 S1
    | @fst y z o h k b =>
      walk_at "rd"
      refine ⟨_, _, rfl, h, fun H1 S1 => ?_⟩
      have h1 := sqx_same h S1
      have hR1 := hR.same S1
      walk_at "rd"
      refine rd_iF ?_
      walk_at "rd"
      obtain ⟨a, rfl, hs⟩ := h1.any
      refine rd_lenB hs ?_
      walk_at "rd"
      refine iteF' rfl ?_
      walk_at "rd"
      refine h1.unp rfl ?_
      walk_at "rd"
      refine rd_len hR1.at_ ?_
      walk_at "rd"
      refine ⟨_, _, _, rfl, kin_same k S1, ?_⟩
      walk_at "rd"
      rw [List.length_map, b]
      walk_at "rd"
      exact hQ H1 S1
    | snd h k k' b => 
      walk_at "rd"
      refine ⟨_, _, rfl, h, fun H1 S1 => ?_⟩
      have h1 := sqx_same h S1
      have hR1 := hR.same S1
      walk_at "rd"
      refine rd_iF ?_
      walk_at "rd"
      obtain ⟨a, rfl, hs⟩ := h1.any
      refine rd_lenB hs ?_
      walk_at "rd"
      refine iteF' rfl ?_
      walk_at "rd"
      refine h1.unp rfl ?_
      walk_at "rd"
      refine rd_len hR1.at_ ?_
      walk_at "rd"
      refine ⟨_, _, _, rfl, kin_same k S1, ?_⟩
      walk_at "rd"
      rw [List.length_map]
      cases belB _ _ with
      | false => walk_at "rd"; exact hQ H1 S1
      | true =>
        refine rd_iF ?_
        walk_at "rd"
        refine rd_len hR1.at_ ?_
        walk_at "rd"
        refine ⟨_, _, _, rfl, kin_same k' S1, ?_⟩
        walk_at "rd"
        rw [List.length_map, b]
        walk_at "rd"
        exact hQ H1 S1
    | @eq a h a0 a1 =>
      have ba := belB_true a0 a1
      walk_at "rd"
      refine ⟨_, _, rfl, h, fun H1 S1 => ?_⟩
      have h1 := sqx_same h S1
      have hR1 := hR.same S1
      walk_at "rd"
      refine rd_iF ?_
      walk_at "rd"
      obtain ⟨p, rfl, hs⟩ := h1.any
      refine rd_lenB hs ?_
      walk_at "rd"
      refine iteF' rfl ?_
      walk_at "rd"
      refine h1.unp rfl ?_
      walk_at "rd"
      refine rd_len hR1.at_ ?_
      walk_at "rd"
      refine ⟨_, _, _, rfl, .int a, ?_⟩
      walk_at "rd"
      rw [List.length_map, ba]
      refine rd_iF ?_
      walk_at "rd"
      refine rd_len hR1.at_ ?_
      walk_at "rd"
      refine ⟨_, _, _, rfl, .int a, ?_⟩
      walk_at "rd"
      rw [List.length_map, ba]
      refine rd_iF ?_
      walk_at "rd"
      refine iteT' (by simp) ?_
      walk_at "rd"
      exact hQ H1 S1
    | @ok a b h a0 a1 b0 b1 ne =>
      have ba := belB_true a0 a1
      have bb := belB_true b0 b1
      walk_at "rd"
      refine ⟨_, _, rfl, h, fun H1 S1 => ?_⟩
      have h1 := sqx_same h S1
      have hR1 := hR.same S1
      walk_at "rd"
      refine rd_iF ?_
      walk_at "rd"
      obtain ⟨p, rfl, hs⟩ := h1.any
      refine rd_lenB hs ?_
      walk_at "rd"
      refine iteF' rfl ?_
      walk_at "rd"
      refine h1.unp rfl ?_
      walk_at "rd"
      refine rd_len hR1.at_ ?_
      walk_at "rd"
      refine ⟨_, _, _, rfl, .int a, ?_⟩
      walk_at "rd"
      rw [List.length_map, ba]
      refine rd_iF ?_
      walk_at "rd"
      refine rd_len hR1.at_ ?_
      walk_at "rd"
      refine ⟨_, _, _, rfl, .int b, ?_⟩
      walk_at "rd"
      rw [List.length_map, bb]
      refine rd_iF ?_
      walk_at "rd"
      refine iteF' (by simpa using ne) ?_
      walk_at "rd"
      obtain ⟨ra, _, hra, ata⟩ := hR1.get a0 a1
      obtain ⟨rb, _, hrb, atb⟩ := hR1.get b0 b1
      refine rd_ixL hR1.at_ ata ?_
      refine rd_notInI (.inl (SqL.of hra)) ?_
      walk_at "rd"
      have e0 : okL R (some (a, b)) = (!decide (b ∈ rowOf R a) && (decide ((rowOf R a).length < 4) && decide ((rowOf R b).length < 4))) := rfl
      have hQ := hQ H1 S1
      rw [e0] at hQ
      by_cases h1 : b ∈ rowOf R a
      · have z : (!decide (b ∈ rowOf R a)) = false := by simp [h1]
        rw [z] at hQ ⊢
        walk_at "rd"
        exact hQ
      · have z : (!decide (b ∈ rowOf R a)) = true := by simp [h1]
        rw [z, Bool.true_and] at hQ
        rw [z]
        walk_at "rd"
        refine rd_ixL hR1.at_ ata ?_
        walk_at "rd"
        refine rd_len hra ?_
        walk_at "rd"
        by_cases h2 : (rowOf R a).length < 4
        · rw [decide_eq_true h2, Bool.true_and] at hQ
          refine iteT' (by simp; omega) ?_
          walk_at "rd"
          refine rd_ixL hR1.at_ atb ?_
          walk_at "rd"
          refine rd_len hrb ?_
          walk_at "rd"
          have e3 : decide (((List.map V.int (rowOf R b)).length : Int) < 4) = decide ((rowOf R b).length < 4) := by
            rw [List.length_map]
            by_cases h3 : (rowOf R b).length < 4
            · rw [decide_eq_true h3, decide_eq_true (by omega)]
            · rw [decide_eq_false h3, decide_eq_false (by omega)]
          rw [e3]
          exact hQ
        · rw [decide_eq_false h2, Bool.false_and] at hQ
          refine iteF' (by simp; omega) ?_
          walk_at "rd"
          exact hQ
end
end K71

namespace K71
open PySem PySem.Spec PyProof.Rows L2 KX
local macro_rules | `(tactic| walk_at "rd1") => `(tactic| first
  | with_reducible refine rd_seq ?_
  | with_reducible refine rd_asg ?_
  | ((with_reducible refine' rd_var ?rdv ?_); (case rdv => exact rfl))
  | with_reducible refine rd_c ?_
  | with_reducible refine rd_op ?_
  | with_reducible refine rd_un ?_
  | with_reducible refine rd_cons ?_
  | with_reducible refine rd_nil ?_
  | with_reducible refine rd_call ?_
  | with_reducible refine rd_cb ?_
  | with_reducible refine rd_tB ?_
  | with_reducible refine rd_test ?_
  | with_reducible refine rd_bl ?_
  | with_reducible refine rd_rI0 ?_
  | with_reducible refine rd_eqI ?_
  | with_reducible refine rd_neI ?_
  | with_reducible refine rd_rU ?_
  | with_reducible refine rd_name ?_
  | with_reducible refine rd_ifs ?_
  | with_reducible refine rd_and ?_
  | with_reducible refine rd_or ?_
  | with_reducible refine rd_not ?_
  | with_reducible refine rd_yes ?_
  | with_reducible refine rd_andV ?_
  | with_reducible refine rd_orV ?_
  | with_reducible refine rd_notV ?_
  | with_reducible refine rd_if ?_
  | with_reducible refine rd_isN ?_
  | with_reducible refine rd_iT ?_
  | with_reducible refine rd_iF ?_
  | with_reducible refine rd_ret ?_
  | with_reducible refine rd_retN ?_
  | with_reducible refine rd_drop ?_
  | with_reducible refine rd_next ?_
  | with_reducible refine rd_cont ?_
  | with_reducible refine rd_brk ?_
  | with_reducible refine rd_nx ?_
  | with_reducible refine rd_rt ?_
  | with_reducible refine rd_ct ?_
  | with_reducible refine rd_bk ?_
  | with_reducible refine rd_par ?_
  | with_reducible refine rd_par3 ?_
  | with_reducible refine rd_par2 ?_
  | with_reducible refine rd_par33 ?_
  | with_reducible refine rd_gcons ?_
  | with_reducible refine rd_gnil ?_
  | with_reducible refine rd_sub ?_
  | with_reducible refine rd_tup ?_
  | with_reducible refine rd_lst ?_
  | ((with_reducible refine rd_tupT ?hl ?_); (case hl => exact Nat.le_of_ble_eq_true rfl))
  | ((with_reducible refine rd_lstT ?hl ?_); (case hl => exact Nat.le_of_ble_eq_true rfl))
  | with_reducible refine rd_bm ?_
  | with_reducible refine rd_bm0 ?_
  | with_reducible refine rd_sl ?_
  | with_reducible refine rd_noP ?_
  | with_reducible refine rd_part ?_
  | with_reducible refine rd_int ?_
  | with_reducible refine rd_int1 ?_
  | with_reducible refine rd_fld ?_
  | with_reducible refine rd_then ?_
  | with_reducible refine rd_raise ?_
  | with_reducible refine rd_one ?_
  | with_reducible refine rd_sfld ?_
  | with_reducible refine rd_ilist ?_
  | with_reducible refine rd_itup ?_
  | with_reducible refine rd_rng1 ?_
  | with_reducible refine rd_enum ?_
  | with_reducible refine rd_enumT ?_)
local macro_rules | `(tactic| walk_at "rd") => `(tactic| repeat (walk_at "rd1"))
/-- a list (true) or a tuple -/
def SqB (H : Hp) (x : V) (xs : List V) : Bool → Prop
  | true => ∃ a, x = .ref a ∧ H a = some (.lst xs)
  | false => ∃ a, x = .ref a ∧ Tup H a xs
theorem SqX.b {K : PySem.W.Frag} {H : Hp} {x : V} {xs : List V} (h : SqX K H x (some xs)) : ∃ b, SqB H x xs b := by
  cases h with
  | lst h => exact ⟨true, _, rfl, h⟩
  | tup h => exact ⟨false, _, rfl, h⟩
theorem SqB.x {K : PySem.W.Frag} {H : Hp} {x : V} {xs : List V} {b : Bool} (h : SqB H x xs b) : SqX K H x (some xs) := by
  cases b with
  | true => obtain ⟨a, rfl, h⟩ := h; exact .lst h
  | false => obtain ⟨a, rfl, h⟩ := h; exact .tup h
theorem SqB.same {H H' : Hp} {x : V} {xs : List V} {b : Bool} (h : SqB H x xs b) (s : Same H H') : SqB H' x xs b := by
  cases b with
  | true => obtain ⟨a, rfl, h⟩ := h; exact ⟨a, rfl, s _ _ h⟩
  | false => obtain ⟨a, rfl, h⟩ := h; exact ⟨a, rfl, h.same s⟩
theorem for_enumX {K : PySem.W.Frag} {ta : TA} {g : TG} {tb : TS} {D : Ends} {σ : L2.St} {H : Hp} {x : V} {xs : List V} {b : Bool} (hx : SqB H x xs b) (hta : ∀ R : List V → Hp → Prop, R [x] H → ta σ H R)
    (Pv : Nat → L2.St → Hp → Prop) (h0 : Pv 0 σ H) (hS : ∀ i σ H', Pv i σ H' → SqB H' x xs b)
    (hs : ∀ i y σ H' T H2, xs[i]? = some y → Pv i σ H' → H' T = none → Same H' H2 → H2 T = some (.tup [.int (i : Nat), y]) → g (.ref T) σ H2 fun σ3 H3 => tb { D with nx := Pv (i + 1), ct := Pv (i + 1), bk := D.nx } σ3 H3)
    (hd : ∀ σ H', Pv xs.length σ H' → D.nx σ H') : tFor (fun σ H R => iEnum K ta σ H R ∨ iEnumT K ta σ H R) g tb D σ H := by
  have st : ∀ i v σ H1 H2, i < xs.length → Pv i σ H1 → YPair (fun i => some (.int (i : Nat))) (fun i => xs[i]?) i H1 v H2 → g v σ H2 fun σ3 H3 => tb { D with nx := Pv (i + 1), ct := Pv (i + 1), bk := D.nx } σ3 H3 := by
    rintro i v σ H1 H2 _ hp ⟨T, a, b, rfl, hT, rfl, ha, hb⟩
    have ha : some (V.int (i : Nat)) = some a := ha
    cases ha
    exact hs i b σ H1 T _ hb hp hT (Same.fresh hT) upd_same
  cases b with
  | true =>
    obtain ⟨a, rfl, h⟩ := hx
    refine .inl (hta _ ⟨_, _, rfl, SqL.of h, for_it (walk_enum (K := K) (xs := xs)) Pv h0 (fun i σ H' _ p => ?_) st hd⟩)
    obtain ⟨a', e, h'⟩ := hS i σ H' p
    cases e
    exact SqL.of h'
  | false =>
    obtain ⟨a, rfl, h⟩ := hx
    refine .inr (hta _ ⟨_, _, rfl, h.sq, for_it (walk_enumT (K := K) (xs := xs)) Pv h0 (fun i σ H' _ p => ?_) st hd⟩)
    obtain ⟨a', e, h'⟩ := hS i σ H' p
    cases e
    exact h'.sq
theorem kTup_b {K : PySem.W.Frag} {H : Hp} {x : V} {xs : List V} {b : Bool} {Q : VK} (h : SqB H x xs b) (q : ∀ H' p, Same H H' → Tup H' p xs → Q (.ref p) H') : kTup K x H Q := by
  cases b with
  | true => obtain ⟨a, rfl, h⟩ := h; exact .inl ⟨_, _, rfl, SqL.of h, fun p hp => q _ p (Same.fresh hp) (Tup.of upd_same)⟩
  | false => obtain ⟨a, rfl, h⟩ := h; exact .inr ⟨_, _, rfl, h.sq, q H _ (Same.refl H) h⟩
/-- what is raised: the class, the index -/
def ErrAt (C : Addr) (E : XK) (H : Hp) (i : Int) : Prop := ∀ H' d, Same H H' → H' d = none → E (.ref C) (some d) (upd H' d (.xd [(("at" : Str), .int i)]))
/-- modes: what may be told of them -/
def spModes (K : PySem.W.Frag) (C : Addr) : Sp := fun vs H Q E => ∃ (x : V) (o : Option (List V)), vs = [x] ∧ SqX K H x o ∧
  (o = none → ErrAt C E H 0) ∧ (o = some [] → ErrAt C E H 0) ∧
  ∀ xs, o = some xs → xs ≠ [] → ∃ os, Paired (Kin K H) xs os ∧
    (∀ (i : Nat) o, os[i]? = some o → (∀ j o', j < i → os[j]? = some o' → bel4 o' = true) → bel4 o = false → ErrAt C E H i) ∧
    ((∀ o ∈ os, bel4 o = true) → ∀ H' p, Same H H' → Tup H' p xs → Q (.ref p) H')
theorem paired_get {α β : Type} {F : α → β → Prop} {l : List α} {m : List β} (h : Paired F l m) : ∀ {i : Nat} {x : α}, l[i]? = some x → ∃ y, m[i]? = some y ∧ F x y := by
  induction h with
  | nil => intro i x e; simp at e
  | @cons a b l m hab t ih =>
    intro i x e
    cases i with
    | zero => simp at e; subst e; exact ⟨b, by simp, hab⟩
    | succ j => simp at e; obtain ⟨y, h1, h2⟩ := ih e; exact ⟨y, by simpa using h1, h2⟩
theorem paired_len {α β : Type} {F : α → β → Prop} {l : List α} {m : List β} (h : Paired F l m) : l.length = m.length := by
  induction h with
  | nil => rfl
  | cons _ _ ih => simp [ih]
section
variable {P : Program} {w : World} {K : PySem.W.Frag} {mg : Str → Option Value} {base : Heap} (T : TX K mg)
theorem G_checked_modes : FnOk P w K mg base (L2.CX P w) 5 T.f_checked_modes T.d_checked_modes ["modes"] (spModes K T.c_InvalidNetwork) := by
  refine T.F_checked_modes.okX sc_checked_modes (fun vs H Q E h => ?_) fun cdv A outer s H vs Q E hr h => ⟨_, (pss_cons (ps_if (PW.pt (pw_or (pt_not (pt_val (pe_call (G_is_sequence T) (hr.mono (by decide)) (by rfl) T.m_is_sequence T.F_is_sequence.kp T.b_is_sequence .nil pass0 (by exact (pa_cons (pv 0) pa_nil))))) (pw_or1 (pt_cmpR op_eq (pe_callB (cr_lenK (K := K)) (by rfl) T.n_len (by decide +kernel) (by exact (pa_cons (pv 0) pa_nil))) pe_int (nomark _))))) (pss_one (ps_raiseErrZ rfl T.E_InvalidNetwork hr (takes_of rfl rfl rfl rfl) (by exact (pa_cons pe_int pa_nil)))) pss_nil) (pss_cons (ps_for (passes_of rfl) rfl (PI.or (pi_enumK (K := K) (by rfl) T.n_enumerate (by exact (pa_cons (pv 0) pa_nil))) (pi_enumTK (K := K) (by rfl) T.n_enumerate (by exact (pa_cons (pv 0) pa_nil)))) (pg_tupK (K := K) (n := 2) (by rfl) (pgs_cons (pg_name (i := 1) sc_checked_modes.nd rfl (.inl rfl)) (pgs_cons (pg_name (i := 2) sc_checked_modes.nd rfl (.inl rfl)) pgs_nil))) (pss_one (ps_if (pt_not (pt_val (pe_call (G_is_mode T) (hr.mono (by decide)) (by rfl) T.m_is_mode T.F_is_mode.kp T.b_is_mode .nil pass0 (by exact (pa_cons (pv 2) pa_nil))))) (pss_one (ps_raiseErrZ rfl T.E_InvalidNetwork hr (takes_of rfl rfl rfl rfl) (by exact (pa_cons (pv 1) pa_nil)))) pss_nil))) (pss_one (ps_ret (pe_tupleK (K := K) (by rfl) T.n_tuple (pv 0)))))), ?_⟩
  · obtain ⟨x, o, rfl, _⟩ := h
    rfl
  · obtain ⟨x, o, rfl, hx, hE0, hE1, hM⟩ := h
    walk_at "rd"
    refine ⟨_, _, rfl, hx, fun H1 S1 => ?_⟩
    have hx1 := sqx_same hx S1
    walk_at "rd"
    cases o with
    | none =>
      refine rd_iT ?_
      walk_at "rd"
      exact fun d hd => hE0 rfl H1 d S1 hd
    | some xs =>
      refine rd_iF ?_
      walk_at "rd"
      obtain ⟨b, hb⟩ := hx1.b
      obtain ⟨a, rfl, hs⟩ := hx1.any
      refine rd_lenB hs ?_
      walk_at "rd"
      by_cases h0 : xs = []
      · subst h0
        refine iteT' rfl ?_
        walk_at "rd"
        exact fun d hd => hE1 rfl H1 d S1 hd
      · obtain ⟨os, hk, hbad, hgood⟩ := hM xs rfl h0
        refine iteF' (by
          have : xs.length ≠ 0 := fun z => h0 (List.length_eq_zero_iff.mp z)
          simp; omega) ?_
        walk_at "rd"
        refine for_enumX (b := b) hb (fun R r => rd_cons (rd_var rfl (rd_nil r))) (fun i σ H2 => Same H H2 ∧ SqB H2 (.ref a) xs b ∧ (∃ o1 o2, σ = [some (.ref a), o1, o2]) ∧ ∀ j o', j < i → os[j]? = some o' → bel4 o' = true)
          ⟨S1, hb, ⟨_, _, rfl⟩, fun j o' h => absurd h (Nat.not_lt_zero j)⟩ (fun i σ H2 p => p.2.1) (fun i y σ H2 t H3 hy p ht S3 et => ?_) (fun σ H2 p => ?_)
        · obtain ⟨S2, hb2, ⟨o1, o2, rfl⟩, hg⟩ := p
          refine rd_gtup (Tup.of et) rfl ?_
          walk_at "rd"
          obtain ⟨oy, ho, ky⟩ := paired_get hk hy
          refine ⟨_, _, rfl, kin_same ky (S2.trans S3), ?_⟩
          walk_at "rd"
          cases hbo : bel4 oy with
          | false =>
            refine rd_iT ?_
            walk_at "rd"
            exact fun d hd => hbad i oy ho hg hbo H3 d (S2.trans S3) hd
          | true =>
            refine rd_iF ?_
            walk_at "rd"
            refine ⟨S2.trans S3, hb2.same S3, ⟨_, _, rfl⟩, fun j o' hj e => ?_⟩
            rcases Nat.lt_succ_iff_lt_or_eq.mp hj with h | h
            · exact hg j o' h e
            · subst h
              rw [ho] at e
              cases e
              exact hbo
        · obtain ⟨S2, hb2, ⟨o1, o2, rfl⟩, hg⟩ := p
          walk_at "rd"
          refine kTup_b hb2 fun H3 p S3 hp => ?_
          refine hgood (fun o ho => ?_) H3 p (S2.trans S3) hp
          obtain ⟨j, hj⟩ := List.getElem?_of_mem ho
          exact hg j o (by rw [paired_len hk]; exact (List.getElem?_eq_some_iff.mp hj).1) hj
end
end K71

namespace K71
open PySem PySem.Spec PyProof.Rows L2 KX
local macro_rules | `(tactic| walk_at "rd1") => `(tactic| first
  | with_reducible refine rd_seq ?_
  | with_reducible refine rd_asg ?_
  | ((with_reducible refine' rd_var ?rdv ?_); (case rdv => exact rfl))
  | with_reducible refine rd_c ?_
  | with_reducible refine rd_op ?_
  | with_reducible refine rd_un ?_
  | with_reducible refine rd_cons ?_
  | with_reducible refine rd_nil ?_
  | with_reducible refine rd_call ?_
  | with_reducible refine rd_cb ?_
  | with_reducible refine rd_tB ?_
  | with_reducible refine rd_test ?_
  | with_reducible refine rd_bl ?_
  | with_reducible refine rd_rI0 ?_
  | with_reducible refine rd_eqI ?_
  | with_reducible refine rd_neI ?_
  | with_reducible refine rd_rU ?_
  | with_reducible refine rd_name ?_
  | with_reducible refine rd_ifs ?_
  | with_reducible refine rd_and ?_
  | with_reducible refine rd_or ?_
  | with_reducible refine rd_not ?_
  | with_reducible refine rd_yes ?_
  | with_reducible refine rd_andV ?_
  | with_reducible refine rd_orV ?_
  | with_reducible refine rd_notV ?_
  | with_reducible refine rd_if ?_
  | with_reducible refine rd_isN ?_
  | with_reducible refine rd_iT ?_
  | with_reducible refine rd_iF ?_
  | with_reducible refine rd_ret ?_
  | with_reducible refine rd_retN ?_
  | with_reducible refine rd_drop ?_
  | with_reducible refine rd_next ?_
  | with_reducible refine rd_cont ?_
  | with_reducible refine rd_brk ?_
  | with_reducible refine rd_nx ?_
  | with_reducible refine rd_rt ?_
  | with_reducible refine rd_ct ?_
  | with_reducible refine rd_bk ?_
  | with_reducible refine rd_par ?_
  | with_reducible refine rd_par3 ?_
  | with_reducible refine rd_par2 ?_
  | with_reducible refine rd_par33 ?_
  | with_reducible refine rd_gcons ?_
  | with_reducible refine rd_gnil ?_
  | with_reducible refine rd_sub ?_
  | with_reducible refine rd_tup ?_
  | with_reducible refine rd_lst ?_
  | ((with_reducible refine rd_tupT ?hl ?_); (case hl => exact Nat.le_of_ble_eq_true rfl))
  | ((with_reducible refine rd_lstT ?hl ?_); (case hl => exact Nat.le_of_ble_eq_true rfl))
  | with_reducible refine rd_bm ?_
  | with_reducible refine rd_bm0 ?_
  | with_reducible refine rd_sl ?_
  | with_reducible refine rd_noP ?_
  | with_reducible refine rd_part ?_
  | with_reducible refine rd_int ?_
  | with_reducible refine rd_int1 ?_
  | with_reducible refine rd_fld ?_
  | with_reducible refine rd_then ?_
  | with_reducible refine rd_raise ?_
  | with_reducible refine rd_one ?_
  | with_reducible refine rd_sfld ?_
  | with_reducible refine rd_ilist ?_
  | with_reducible refine rd_itup ?_
  | with_reducible refine rd_rng1 ?_
  | with_reducible refine rd_enum ?_
  | with_reducible refine rd_enumT ?_)
local macro_rules | `(tactic| walk_at "rd") => `(tactic| repeat (walk_at "rd1"))
theorem Same.put {H H' : Hp} {D : Addr} {o : HO} (s : Same H H') (n : H D = none) : Same H (L2.upd H' D o) := fun c u h => by
  rw [upd_ne (fun z => by rw [z, n] at h; cases h)]
  exact s c u h
/-- a row sorted, as a tuple -/
def SrtAt (H : Hp) (q : Addr) (row : List Int) : Prop := ∃ ns : List Int, ns.Perm row ∧ ns.Pairwise (· ≤ ·) ∧ Tup H q (ns.map V.int)
theorem SrtAt.same {H H' : Hp} {q : Addr} {row : List Int} (h : SrtAt H q row) (s : Same H H') : SrtAt H' q row := by
  obtain ⟨ns, a, b, c⟩ := h
  exact ⟨ns, a, b, c.same s⟩
theorem paired_mono {α β : Type} {F G : α → β → Prop} {l : List α} {m : List β} (h : Paired F l m) (f : ∀ a b, F a b → G a b) : Paired G l m := by
  induction h with
  | nil => exact .nil
  | cons a _ ih => exact .cons (f _ _ a) ih
def emptyR (n : Nat) : List (List Int) := List.replicate n []
/-- all rows hold four at most -/
def Le4 (R : List (List Int)) : Prop := ∀ row ∈ R, row.length ≤ 4
def spLinks (K : PySem.W.Frag) (C : Addr) : Sp := fun vs H Q E => ∃ (n : Nat) (z : V) (o : Option (List V)), vs = [.int (n : Nat), z] ∧ n < 1000 ∧ SqX K H z o ∧
  (o = none → ErrAt C E H n) ∧
  ∀ xs, o = some xs → ∃ es, Paired (LkIs K H n) xs es ∧
    (∀ (i : Nat) e R, es[i]? = some e → runP (emptyR n) (es.take i) = some R → okL R e = false → ErrAt C E H (n + i)) ∧
    (∀ R, runP (emptyR n) es = some R → R.length = n → Le4 R → ∀ H' p ps, Same H H' → H' p = some (.tup (ps.map V.ref)) → Paired (SrtAt H') ps R → Q (.ref p) H')
theorem runP_snoc : ∀ (es : List (Option (Int × Int))) (R : List (List Int)) (e : Option (Int × Int)), runP R (es ++ [e]) = (runP R es).bind fun R' => stepL R' e
  | [], R, e => by
    show (stepL R e).bind (fun R' => some R') = stepL R e
    cases stepL R e <;> rfl
  | f :: es, R, e => by
    show (stepL R f).bind (fun R' => runP R' (es ++ [e])) = ((stepL R f).bind fun R' => runP R' es).bind fun R' => stepL R' e
    cases h : stepL R f with
    | none => rfl
    | some R' => exact runP_snoc es R' e
theorem appR_len (R : List (List Int)) (a b : Int) : (appR R a b).length = R.length := by unfold appR; simp
theorem addR_len (R : List (List Int)) (e : Option (Int × Int)) : (addR R e).length = R.length := by
  cases e with
  | none => rfl
  | some p => obtain ⟨a, b⟩ := p; show (appR (appR R a b) b a).length = _; rw [appR_len, appR_len]
theorem stepL_some {R R' : List (List Int)} {e : Option (Int × Int)} (h : stepL R e = some R') : okL R e = true ∧ R' = addR R e := by
  unfold stepL at h
  by_cases z : okL R e = true
  · rw [if_pos z] at h
    exact ⟨z, (Option.some.inj h).symm⟩
  · rw [if_neg z] at h; cases h
theorem rowOf_mem {R : List (List Int)} {a : Int} : rowOf R a = [] ∨ rowOf R a ∈ R := by
  unfold rowOf
  by_cases h : a.toNat < R.length
  · right
    rw [List.getD_eq_getElem?_getD, List.getElem?_eq_getElem h]
    exact List.getElem_mem h
  · left
    rw [List.getD_eq_getElem?_getD, List.getElem?_eq_none (by omega)]
    rfl
theorem rowOf_app {R : List (List Int)} {a b c : Int} (ne : a.toNat ≠ c.toNat) : rowOf (appR R a b) c = rowOf R c := by
  unfold rowOf appR
  rw [List.getD_eq_getElem?_getD, List.getD_eq_getElem?_getD, List.getElem?_set_ne ne]
theorem rowOf_app_self {R : List (List Int)} {a b : Int} (h : a.toNat < R.length) : rowOf (appR R a b) a = rowOf R a ++ [b] := by
  show (List.set R a.toNat (rowOf R a ++ [b])).getD a.toNat [] = rowOf R a ++ [b]
  rw [List.getD_eq_getElem?_getD, List.getElem?_set_self h]; rfl
theorem Le4.app {R : List (List Int)} {a b : Int} (h : Le4 R) (l : (rowOf R a).length < 4) : Le4 (appR R a b) := fun row hr => by
  rcases List.mem_or_eq_of_mem_set hr with z | z
  · exact h row z
  · rw [z, List.length_append]; exact l
theorem Le4.step {R R' : List (List Int)} {e : Option (Int × Int)} (hR : Le4 R) (hne : ∀ a b, e = some (a, b) → a.toNat ≠ b.toNat) (h : stepL R e = some R') : Le4 R' := by
  obtain ⟨ok, rfl⟩ := stepL_some h
  match e, ok, hne with
  | none, ok, _ => exact hR
  | some (a, b), ok, hne =>
    have ok : (!decide (b ∈ rowOf R a) && (decide ((rowOf R a).length < 4) && decide ((rowOf R b).length < 4))) = true := ok
    simp only [Bool.and_eq_true, decide_eq_true_eq] at ok
    refine (hR.app (b := b) ok.2.1).app (b := a) ?_
    rw [rowOf_app (hne a b rfl)]
    exact ok.2.2
theorem Rows.app {H : Hp} {N : Addr} {rs : List Addr} {R : List (List Int)} (h : Rows H N rs R) {a b : Int} {r : Addr} (hr : rs[a.toNat]? = some r) :
    Rows (upd H r (.lst ((rowOf R a).map V.int ++ [.int b]))) N rs (appR R a b) := by
  have mem : r ∈ rs := List.mem_of_getElem? hr
  refine ⟨by rw [upd_ne (fun z => h.out (by rw [z]; exact mem))]; exact h.at_, ?_, h.nd, h.out⟩
  have e0 : (rowOf R a).map V.int ++ [V.int b] = (rowOf R a ++ [b]).map V.int := by simp
  rw [e0]
  have gen : ∀ {l : List Addr} {m : List (List Int)} (k : Nat) (row : List Int), Paired (fun r (row : List Int) => H r = some (.lst (row.map V.int))) l m → l.Nodup → l[k]? = some r →
      Paired (fun q (row' : List Int) => upd H r (.lst (row.map V.int)) q = some (.lst (row'.map V.int))) l (m.set k row) := by
    intro l m k row p
    induction p generalizing k with
    | nil => intro _ z; simp at z
    | @cons x y l m hxy q ih =>
      intro nd z
      have nd' := (List.nodup_cons.mp nd)
      cases k with
      | zero =>
        simp at z
        subst z
        refine .cons (by show upd H x _ x = _; rw [upd_same]) ?_
        have gen2 : ∀ {l : List Addr} {m : List (List Int)}, Paired (fun r (row : List Int) => H r = some (.lst (row.map V.int))) l m → x ∉ l → Paired (fun q (row' : List Int) => upd H x (.lst (row.map V.int)) q = some (.lst (row'.map V.int))) l m := by
          intro l m p
          induction p with
          | nil => intro _; exact .nil
          | @cons u v l m huv _ ih2 =>
            intro hx
            refine .cons ?_ (ih2 fun z => hx (List.mem_cons_of_mem _ z))
            show upd H x _ u = _
            rw [upd_ne (fun z => hx (by rw [z]; exact List.mem_cons_self))]
            exact huv
        exact gen2 q nd'.1
      | succ j =>
        simp at z
        refine .cons ?_ (ih j nd'.2 z)
        show upd H r _ x = _
        rw [upd_ne (fun e => nd'.1 (by rw [e]; exact List.mem_of_getElem? z))]
        exact hxy
  exact gen a.toNat (rowOf R a ++ [b]) h.rows h.nd hr
section
variable {P : Program} {w : World} {K : PySem.W.Frag} {mg : Str → Option Value} {base : Heap} (T : TX K mg)
theorem G_linked_sites : FnOk P w K mg base (L2.CX P w) 5 T.f_linked_sites T.d_linked_sites ["many", "links"] (spLinks K T.c_InvalidNetwork) := by
  refine T.F_linked_sites.okX sc_linked_sites (fun vs H Q E h => ?_) fun cdv A outer s H vs Q E hr h => ⟨_, (pss_cons (ps_if (pt_not (pt_val (pe_call (G_is_sequence T) (hr.mono (by decide)) (by rfl) T.m_is_sequence T.F_is_sequence.kp T.b_is_sequence .nil pass0 (by exact (pa_cons (pv 1) pa_nil))))) (pss_one (ps_raiseErrZ rfl T.E_InvalidNetwork hr (takes_of rfl rfl rfl rfl) (by exact (pa_cons (pv 0) pa_nil)))) pss_nil) (pss_cons (ps_setLc (i := 2) (own := [("_", 7)]) (by rfl) sc_linked_sites.nd rfl rfl (sw_true rfl rfl rfl (by decide +kernel)) (pi_range1 (by rfl) T.n_range (by exact (pa_cons (pv 0) pa_nil))) (blkOk_by (own := [("_", 7)]) (N := N_linked_sites) (sc := defScope s_linked_sites) (by decide +kernel)) (fun _ _ _ _ _ => (pg_name (i := 7) sc_linked_sites.nd rfl (.inl rfl))) (fun _ _ _ _ _ => pts_nil) (fun _ _ _ _ _ => (pe_lst pa_nil)) ) (pss_cons (ps_for (passes_of rfl) rfl (PI.or (pi_enumK (K := K) (by rfl) T.n_enumerate (by exact (pa_cons (pv 1) pa_nil))) (pi_enumTK (K := K) (by rfl) T.n_enumerate (by exact (pa_cons (pv 1) pa_nil)))) (pg_tupK (K := K) (n := 2) (by rfl) (pgs_cons (pg_name (i := 3) sc_linked_sites.nd rfl (.inl rfl)) (pgs_cons (pg_name (i := 4) sc_linked_sites.nd rfl (.inl rfl)) pgs_nil))) (pss_cons (ps_if (pt_not (pt_val (pe_call (G_can_link T) (hr.mono (by decide)) (by rfl) T.m_can_link T.F_can_link.kp T.b_can_link .nil pass0 (by exact (pa_cons (pv 2) (pa_cons (pv 4) pa_nil)))))) (pss_one (ps_raiseErrZ rfl T.E_InvalidNetwork hr (takes_of rfl rfl rfl rfl) (by exact (pa_cons (pe_op op_add (pv 0) (pv 3)) pa_nil)))) pss_nil) (pss_cons (ps_asg (pv 4) (KX.PG.or (pg_tupK (K := K) (n := 2) (by rfl) (pgs_cons (pg_name (i := 5) sc_linked_sites.nd rfl (.inl rfl)) (pgs_cons (pg_name (i := 6) sc_linked_sites.nd rfl (.inl rfl)) pgs_nil))) (pg_lstK (K := K) (n := 2) (by rfl) (pgs_cons (pg_name (i := 5) sc_linked_sites.nd rfl (.inl rfl)) (pgs_cons (pg_name (i := 6) sc_linked_sites.nd rfl (.inl rfl)) pgs_nil))))) (pss_cons (ps_expr (pe_bmK (K := K) PySem.F.slot_list_append PySem.F.type_list_append mt_append (pe_ix (ix_listK (K := K)) (pv 2) (pv 5) (fun _ _ => rfl)) (by exact (pa_cons (pv 6) pa_nil)))) (pss_one (ps_expr (pe_bmK (K := K) PySem.F.slot_list_append PySem.F.type_list_append mt_append (pe_ix (ix_listK (K := K)) (pv 2) (pv 6) (fun _ _ => rfl)) (by exact (pa_cons (pv 5) pa_nil))))))))) (pss_one (ps_ret (pe_tupleK (K := K) (by rfl) T.n_tuple (by exact (pe_lc (own := [("row", 8)]) (by rfl) sc_linked_sites.nd (pi_listK (K := K) (pv 2)) (blkOk_by (own := [("row", 8)]) (N := N_linked_sites) (sc := defScope s_linked_sites) (by decide +kernel)) (fun _ _ _ _ _ => (pg_name (i := 8) sc_linked_sites.nd rfl (.inl rfl))) (fun _ _ _ _ _ => pts_nil) (fun _ _ _ _ _ => (pe_tupleK (K := K) (by rfl) T.n_tuple (pe_callB (cr_sortedK (K := K)) (by rfl) T.n_sorted (by decide +kernel) (by exact (pa_cons (pv 8) pa_nil))))) )))))))), ?_⟩
  · obtain ⟨n, z, o, rfl, _⟩ := h
    rfl
  · obtain ⟨n, z, o, rfl, hn, hz, hE0, hM⟩ := h
    walk_at "rd"
    refine ⟨_, _, rfl, hz, fun H1 S1 => ?_⟩
    have hz1 := sqx_same hz S1
    walk_at "rd"
    cases o with
    | none =>
      refine rd_iT ?_
      walk_at "rd"
      exact fun d hd => hE0 rfl H1 d S1 hd
    | some xs =>
      refine rd_iF ?_
      walk_at "rd"
      obtain ⟨es, hes, hbad, hgood⟩ := hM xs rfl
      obtain ⟨b, hb0⟩ := hz.b
      have hb := hb0.same S1
      unfold tLc
      walk_at "rd"
      refine ⟨by omega, by omega, fun N hN => ?_⟩
      refine lc_range (lo := 0) (n := n) (fun i H' => Same H1 H' ∧ ∃ rs : List Addr, rs.length = i ∧ H' N = some (.lst (rs.map V.ref)) ∧ (∀ r ∈ rs, H' r = some (.lst []) ∧ H1 r = none) ∧ rs.Nodup ∧ N ∉ rs)
        ⟨Same.fresh hN, [], rfl, upd_same, by simp, List.nodup_nil, by simp⟩ (fun i H2 hi p => ?_) (fun H2 p => ?_)
      · obtain ⟨S2, rs, hl, hNr, hrs, nd, out⟩ := p
        refine ⟨rfl, ?_⟩
        walk_at "rd"
        intro r H3 hr0 S3 hr3
        have hN3 := S3 _ _ hNr
        have nr : N ≠ r := fun z => by rw [z, hr0] at hNr; cases hNr
        have nrs : r ∉ rs := fun z => by
          have := (hrs r z).1
          rw [hr0] at this; cases this
        refine ⟨_, hN3, by rw [List.length_map, hl]; exact Nat.lt_of_lt_of_le (by omega : i < 1000) (by decide), Same.put (S2.trans S3) hN, rs ++ [r], by simp [hl], by rw [upd_same]; simp, fun q hq => ?_, ?_, ?_⟩
        · rcases List.mem_append.mp hq with h | h
          · have nq : q ≠ N := fun z => out (by rw [← z]; exact h)
            rw [upd_ne nq]
            exact ⟨S3 _ _ (hrs q h).1, (hrs q h).2⟩
          · rw [List.mem_singleton.mp h, upd_ne (Ne.symm nr)]
            exact ⟨hr3, S2.free hr0⟩
        · exact List.nodup_append.mpr ⟨nd, by simp, fun a ha b hb => by
            rw [List.mem_singleton.mp hb]
            exact fun z => nrs (by rw [← z]; exact ha)⟩
        · intro z
          rcases List.mem_append.mp z with h | h
          · exact out h
          · exact nr (List.mem_singleton.mp h)
      · obtain ⟨S2, rs, hl, hNr, hrs, nd, out⟩ := p
        have R0 : Rows H2 N rs (emptyR n) := by
          refine ⟨hNr, ?_, nd, out⟩
          have gen : ∀ l : List Addr, (∀ r ∈ l, H2 r = some (.lst [])) → Paired (fun r (row : List Int) => H2 r = some (.lst (row.map V.int))) l (List.replicate l.length []) := by
            intro l
            induction l with
            | nil => intro _; exact .nil
            | cons x l ih => intro h; exact .cons (h x List.mem_cons_self) (ih fun r hr => h r (List.mem_cons_of_mem _ hr))
          unfold emptyR
          rw [← hl]
          exact gen rs fun r hr => (hrs r hr).1
        have fr : ∀ r ∈ rs, H r = none := fun r hr => S1.free (hrs r hr).2
        have lenX := paired_len hes
        walk_at "rd"
        refine for_enumX (b := b) (hb.same S2) (fun R r => rd_cons (rd_var rfl (rd_nil r))) (fun i σ H' => Same H H' ∧ SqB H' z xs b ∧ (∃ o1 o2 o3 o4, σ = [some (.int n), some z, some (.ref N), o1, o2, o3, o4, none, none]) ∧
            ∃ R, runP (emptyR n) (es.take i) = some R ∧ Rows H' N rs R ∧ Le4 R)
          ⟨S1.trans S2, hb.same S2, ⟨_, _, _, _, rfl⟩, emptyR n, rfl, R0, fun row hr => by rw [List.eq_of_mem_replicate hr]; decide⟩ (fun i σ H2 p => p.2.1) (fun i y σ H2 t H3 hy p ht S3 et => ?_) (fun σ H2 p => ?_)
        · obtain ⟨S2', hb2, ⟨o1, o2, o3, o4, rfl⟩, R, hR, hRows, h4⟩ := p
          obtain ⟨ey, he, ke⟩ := paired_get hes hy
          refine rd_gtup (Tup.of et) rfl ?_
          walk_at "rd"
          refine ⟨N, rs, R, y, ey, rfl, hRows.same S3, by rw [hl]; exact ke.same (S2'.trans S3), fun H4 S4 => ?_⟩
          have S5 : Same H H4 := (S2'.trans S3).trans S4
          have hRows4 := hRows.same (S3.trans S4)
          have ke4 := ke.same S5
          walk_at "rd"
          cases hok : okL R ey with
          | false =>
            refine rd_iT ?_
            walk_at "rd"
            exact fun d hd => hbad i ey R he hR hok H4 d S5 hd
          | true =>
            refine rd_iF ?_
            walk_at "rd"
            match ey, hok, ke4, he with
            | none, hok, _, _ => cases hok
            | some (a, c), hok, ke4, he =>
              cases ke4 with
              | ok hs a0 a1 b0 b1 ne =>
                obtain ⟨py, rfl, _⟩ := hs.any
                refine hs.unp rfl ?_
                walk_at "rd"
                obtain ⟨ra, era, hra, ata⟩ := hRows4.get a0 (by omega)
                have la : (rowOf R a).length ≤ 4 := by
                  rcases rowOf_mem (R := R) (a := a) with h | h
                  · rw [h]; decide
                  · exact h4 _ h
                have lc : (rowOf R c).length ≤ 4 := by
                  rcases rowOf_mem (R := R) (a := c) with h | h
                  · rw [h]; decide
                  · exact h4 _ h
                have nac : a.toNat ≠ c.toNat := by omega
                refine rd_ixL hRows4.at_ ata ?_
                refine rd_ty hra ?_
                walk_at "rd"
                refine rd_app hra (by rw [List.length_map]; omega) ?_
                walk_at "rd"
                have hR5 := hRows4.app (b := c) era
                have S6 : Same H (upd H4 ra (.lst ((rowOf R a).map V.int ++ [.int c]))) := Same.put S5 (fr ra (List.mem_of_getElem? era))
                generalize upd H4 ra (.lst ((rowOf R a).map V.int ++ [.int c])) = H5 at hR5 S6
                obtain ⟨rc, erc, hrc, atc⟩ := hR5.get b0 (by omega)
                refine rd_ixL hR5.at_ atc ?_
                refine rd_ty hrc ?_
                walk_at "rd"
                refine rd_app hrc (by rw [List.length_map, rowOf_app nac]; omega) ?_
                walk_at "rd"
                have hR6 := hR5.app (b := a) erc
                have S7 : Same H (upd H5 rc (.lst ((rowOf (appR R a c) c).map V.int ++ [.int a]))) := Same.put S6 (fr rc (List.mem_of_getElem? erc))
                refine ⟨S7, hb0.same S7, ⟨_, _, _, _, rfl⟩, addR R (some (a, c)), ?_, hR6, ?_⟩
                · rw [List.take_succ, he]
                  show runP (emptyR n) (es.take i ++ [some (a, c)]) = _
                  rw [runP_snoc, hR]
                  show stepL R (some (a, c)) = _
                  unfold stepL
                  rw [if_pos hok]
                · refine h4.step (e := some (a, c)) (fun x y e => by cases e; exact nac) ?_
                  unfold stepL
                  rw [if_pos hok]
        · obtain ⟨S2', hb2, ⟨o1, o2, o3, o4, rfl⟩, R, hR, hRows, h4⟩ := p
          rw [lenX, List.take_length] at hR
          walk_at "rd"
          refine ⟨_, rfl, ⟨_, SqL.of hRows.at_⟩, fun D hD => ?_⟩
          have lenR : rs.length = R.length := Paired.length hRows.rows
          refine lc_list (xs := rs.map V.ref) (fun i H' => Same H2 H' ∧ ∃ qs : List Addr, H' D = some (.lst (qs.map V.ref)) ∧ Paired (SrtAt H') qs (R.take i))
            ⟨Same.fresh hD, [], upd_same, .nil⟩ (fun i H' _ p => SqL.of (p.1 _ _ hRows.at_)) (fun i x H3 hx p => ?_) (fun H3 p => ?_)
          · obtain ⟨S3, qs, hq, hP⟩ := p
            rw [List.getElem?_map] at hx
            obtain ⟨r, hr', rfl⟩ := Option.map_eq_some_iff.mp hx
            obtain ⟨row, hrow, hrr⟩ := paired_get hRows.rows hr'
            have hi : i < n := by
              have := (List.getElem?_eq_some_iff.mp hr').1
              omega
            refine ⟨rfl, ?_⟩
            walk_at "rd"
            refine rd_sorted (S3 _ _ hrr) (by have := h4 row (List.mem_of_getElem? hrow); omega) fun ns pm srt => ?_
            intro u H4 hu S4 hu4
            walk_at "rd"
            refine rd_tupL hu4 ?_
            intro q H5 hq0 S5 hq5
            have S45 : Same H3 H5 := S4.trans S5
            have hqD := S45 _ _ hq
            have nq : q ≠ D := fun z => by rw [z, S4 _ _ hq] at hq0; cases hq0
            refine ⟨_, hqD, ?_, Same.put (S3.trans S45) hD, qs ++ [q], by rw [upd_same]; simp, ?_⟩
            · rw [List.length_map, paired_len hP, List.length_take]
              exact Nat.lt_of_lt_of_le (by omega : min i R.length < 1000) (by decide)
            · rw [List.take_succ, hrow]
              refine Paired.snoc (paired_mono hP fun a c h => ?_) ⟨ns, pm, srt, Tup.of (by rw [upd_ne nq]; exact hq5)⟩
              obtain ⟨ns', x1, x2, x3⟩ := h
              refine ⟨ns', x1, x2, ?_⟩
              have x4 := x3.same S45
              rcases x4 with x4 | ⟨o, x4⟩
              · exact Or.inl (by rw [upd_ne (fun z => by rw [z, hqD] at x4; cases x4)]; exact x4)
              · exact Or.inr ⟨o, by rw [upd_ne (fun z => by rw [z, hqD] at x4; cases x4)]; exact x4⟩
          · obtain ⟨S3, qs, hq, hP⟩ := p
            rw [List.length_map, lenR, List.take_length] at hP
            refine rd_tupL hq ?_
            intro q H5 hq0 S5 hq5
            exact hgood R hR (by omega) h4 H5 q qs ((S2'.trans S3).trans S5) hq5 (paired_mono hP fun a c h => h.same S5)
end
end K71

namespace K71
open PySem PySem.Spec PyProof.Rows L2 KX
local macro_rules | `(tactic| walk_at "rd1") => `(tactic| first
  | with_reducible refine rd_seq ?_
  | with_reducible refine rd_asg ?_
  | ((with_reducible refine' rd_var ?rdv ?_); (case rdv => exact rfl))
  | with_reducible refine rd_c ?_
  | with_reducible refine rd_op ?_
  | with_reducible refine rd_un ?_
  | with_reducible refine rd_cons ?_
  | with_reducible refine rd_nil ?_
  | with_reducible refine rd_call ?_
  | with_reducible refine rd_cb ?_
  | with_reducible refine rd_tB ?_
  | with_reducible refine rd_test ?_
  | with_reducible refine rd_bl ?_
  | with_reducible refine rd_rI0 ?_
  | with_reducible refine rd_eqI ?_
  | with_reducible refine rd_neI ?_
  | with_reducible refine rd_rU ?_
  | with_reducible refine rd_name ?_
  | with_reducible refine rd_ifs ?_
  | with_reducible refine rd_and ?_
  | with_reducible refine rd_or ?_
  | with_reducible refine rd_not ?_
  | with_reducible refine rd_yes ?_
  | with_reducible refine rd_andV ?_
  | with_reducible refine rd_orV ?_
  | with_reducible refine rd_notV ?_
  | with_reducible refine rd_if ?_
  | with_reducible refine rd_isN ?_
  | with_reducible refine rd_iT ?_
  | with_reducible refine rd_iF ?_
  | with_reducible refine rd_ret ?_
  | with_reducible refine rd_retN ?_
  | with_reducible refine rd_drop ?_
  | with_reducible refine rd_next ?_
  | with_reducible refine rd_cont ?_
  | with_reducible refine rd_brk ?_
  | with_reducible refine rd_nx ?_
  | with_reducible refine rd_rt ?_
  | with_reducible refine rd_ct ?_
  | with_reducible refine rd_bk ?_
  | with_reducible refine rd_par ?_
  | with_reducible refine rd_par3 ?_
  | with_reducible refine rd_par2 ?_
  | with_reducible refine rd_par33 ?_
  | with_reducible refine rd_gcons ?_
  | with_reducible refine rd_gnil ?_
  | with_reducible refine rd_sub ?_
  | with_reducible refine rd_tup ?_
  | with_reducible refine rd_lst ?_
  | ((with_reducible refine rd_tupT ?hl ?_); (case hl => exact Nat.le_of_ble_eq_true rfl))
  | ((with_reducible refine rd_lstT ?hl ?_); (case hl => exact Nat.le_of_ble_eq_true rfl))
  | with_reducible refine rd_bm ?_
  | with_reducible refine rd_bm0 ?_
  | with_reducible refine rd_sl ?_
  | with_reducible refine rd_noP ?_
  | with_reducible refine rd_part ?_
  | with_reducible refine rd_int ?_
  | with_reducible refine rd_int1 ?_
  | with_reducible refine rd_fld ?_
  | with_reducible refine rd_then ?_
  | with_reducible refine rd_raise ?_
  | with_reducible refine rd_one ?_
  | with_reducible refine rd_sfld ?_
  | with_reducible refine rd_ilist ?_
  | with_reducible refine rd_itup ?_
  | with_reducible refine rd_rng1 ?_
  | with_reducible refine rd_enum ?_
  | with_reducible refine rd_enumT ?_)
local macro_rules | `(tactic| walk_at "rd") => `(tactic| repeat (walk_at "rd1"))
/-- a walk in a comprehension, from any start -/
theorem it_wk {J : It} {n : Nat} {G : Hp → Prop} {Y : Nat → Hp → V → Hp → Prop} (w : Walk J n G Y) {T : V → Hp → (Hp → Prop) → Prop} {Qd : Hp → Prop} {H0 : Hp}
    (Pv : Nat → Hp → Prop) (h0 : Pv 0 H0) (hG : ∀ i H, i ≤ n → Pv i H → G H)
    (hs : ∀ i x H H', i < n → Pv i H → Y i H x H' → T x H' (Pv (i + 1))) (hd : ∀ H, Pv n H → Qd H) :
    ∃ W : Nat → Nat → Hp → Prop, (∃ m, W 0 m H0) ∧ ∀ i m H, W i m H →
      (J.stop i H ∧ Qd H) ∨ (J.go i H ∧ ∃ Nx : Hp → Prop, (∀ H', Nx H' → ∃ m', m' < m ∧ W (i + 1) m' H') ∧ ∀ x H', J.yld i H x H' → T x H' Nx) := by
  refine ⟨fun i m H => m = n - i ∧ i ≤ n ∧ Pv i H, ⟨n, by simp, Nat.zero_le _, h0⟩, ?_⟩
  rintro i m H ⟨rfl, hi, p⟩
  have q := hG i H hi p
  by_cases hlt : i < n
  · exact Or.inr ⟨w.goes i H hlt q, Pv (i + 1), fun H' z => ⟨n - (i + 1), by omega, rfl, hlt, z⟩, fun x H' y => hs i x H H' hlt p (w.yields i H x H' hlt q y)⟩
  · have e : i = n := by omega
    subst e
    exact Or.inl ⟨w.stops H q, hd H p⟩
/-! ### what is no instance stays -/
def Sn (H H' : Hp) : Prop := ∀ a o, (∀ C dx fs, o ≠ .ins C dx fs) → H a = some o → H' a = some o
theorem Sn.same {H H' : Hp} (s : Same H H') : Sn H H' := fun a o _ h => s a o h
theorem Sn.trans {H H1 H2 : Hp} (a : Sn H H1) (b : Sn H1 H2) : Sn H H2 := fun c o n h => b c o n (a c o n h)
theorem tyx_sn {K : PySem.W.Frag} {H H' : Hp} {x : V} {n : String} (h : TyX K H x (.type n)) (s : Sn H H') : TyX K H' x (.type n) := by
  cases h with
  | base h =>
    refine .base ?_
    cases h with
    | lst e => exact .lst (s _ _ (fun _ _ _ z => nomatch z) e)
    | frz e => exact .frz (s _ _ (fun _ _ _ z => nomatch z) e)
    | tup e => exact .tup (s _ _ (fun _ _ _ z => nomatch z) e)
    | dK e => exact .dK (s _ _ (fun _ _ _ z => nomatch z) e)
    | dT e => exact .dT (s _ _ (fun _ _ _ z => nomatch z) e)
    | _ => constructor
  | byt b => exact .byt b
  | set e => exact .set (s _ _ (fun _ _ _ z => nomatch z) e)
  | kList e c => exact .kList e c
  | kTuple e c => exact .kTuple e c
  | kDict e c => exact .kDict e c
  | fTuple e => exact .fTuple (s _ _ (fun _ _ _ z => nomatch z) e)
  | fDict e => exact .fDict (s _ _ (fun _ _ _ z => nomatch z) e)
theorem tup_sn {H H' : Hp} {a : Addr} {xs : List V} (h : Tup H a xs) (s : Sn H H') : Tup H' a xs := by
  rcases h with h | ⟨o, h⟩
  · exact Or.inl (s _ _ (fun _ _ _ z => nomatch z) h)
  · exact Or.inr ⟨o, s _ _ (fun _ _ _ z => nomatch z) h⟩
theorem kin_sn {K : PySem.W.Frag} {H H' : Hp} {x : V} {o : Option Int} (h : Kin K H x o) (s : Sn H H') : Kin K H' x o := by
  cases h with
  | int i => exact .int i
  | oth t h1 h2 h3 => exact .oth (tyx_sn t s) h1 h2 h3
theorem sqx_sn {K : PySem.W.Frag} {H H' : Hp} {x : V} {o : Option (List V)} (h : SqX K H x o) (s : Sn H H') : SqX K H' x o := by
  cases h with
  | lst h => exact .lst (s _ _ (fun _ _ _ z => nomatch z) h)
  | tup h => exact .tup (tup_sn h s)
  | oth t h1 h2 => exact .oth (tyx_sn t s) h1 h2
theorem lk_sn {K : PySem.W.Frag} {H H' : Hp} {n : Nat} {x : V} {e : Option (Int × Int)} (h : LkIs K H n x e) (s : Sn H H') : LkIs K H' n x e := by
  cases h with
  | seq h => exact .seq (sqx_sn h s)
  | len h l => exact .len (sqx_sn h s) l
  | fst h k b => exact .fst (sqx_sn h s) (kin_sn k s) b
  | snd h k k' b => exact .snd (sqx_sn h s) (kin_sn k s) (kin_sn k' s) b
  | eq h a b => exact .eq (sqx_sn h s) a b
  | ok h a b c d e => exact .ok (sqx_sn h s) a b c d e
/-- all but s stays -/
def Ex (s : Addr) (H H' : Hp) : Prop := ∀ a o, a ≠ s → H a = some o → H' a = some o
theorem Ex.same {s : Addr} {H H' : Hp} (h : Same H H') : Ex s H H' := fun a o _ e => h a o e
theorem Ex.trans {s : Addr} {H H1 H2 : Hp} (a : Ex s H H1) (b : Ex s H1 H2) : Ex s H H2 := fun c o n h => b c o n (a c o n h)
theorem Ex.upd {s : Addr} {H : Hp} {o : HO} : Ex s H (upd H s o) := fun a u n h => by rw [upd_ne n]; exact h
theorem Ex.sn {s C dx : Addr} {fs : List (Str × V)} {H H' : Hp} (h : Ex s H H') (hs : H s = some (.ins C dx fs)) : Sn H H' := fun a o n e =>
  h a o (fun z => by rw [z, hs] at e; exact n _ _ _ (Option.some.inj e).symm) e
def ErrX (CI : Addr) (E : XK) (s : Addr) (H : Hp) (i : Int) : Prop := ∀ H' d, Ex s H H' → H' d = none → E (.ref CI) (some d) (upd H' d (.xd [(("at" : Str), .int i)]))
/-! ### the links of the rows -/
def rowE (k : Nat) (row : List Int) : List (Int × Int) := (row.filter fun j => decide ((k : Int) < j)).map fun j => ((k : Int), j)
def edgesFrom (k : Nat) : List (List Int) → List (Int × Int)
  | [] => []
  | row :: rest => rowE k row ++ edgesFrom (k + 1) rest
theorem edges_snoc : ∀ (l : List (List Int)) (k : Nat) (r : List Int), edgesFrom k (l ++ [r]) = edgesFrom k l ++ rowE (k + l.length) r
  | [], k, r => by simp [edgesFrom]
  | x :: l, k, r => by
    show rowE k x ++ edgesFrom (k + 1) (l ++ [r]) = (rowE k x ++ edgesFrom (k + 1) l) ++ rowE (k + (l.length + 1)) r
    rw [edges_snoc l (k + 1) r, List.append_assoc]
    have e : k + 1 + l.length = k + (l.length + 1) := by omega
    rw [e]
theorem edges_take (Ns : List (List Int)) {i : Nat} {r : List Int} (h : Ns[i]? = some r) : edgesFrom 0 (Ns.take (i + 1)) = edgesFrom 0 (Ns.take i) ++ rowE i r := by
  have hi := (List.getElem?_eq_some_iff.mp h).1
  rw [List.take_succ, h]
  show edgesFrom 0 (Ns.take i ++ [r]) = _
  rw [edges_snoc]
  have e : 0 + (Ns.take i).length = i := by rw [List.length_take]; omega
  rw [e]
theorem rowE_take (k : Nat) {ns : List Int} {j : Nat} {y : Int} (h : ns[j]? = some y) : rowE k (ns.take (j + 1)) = rowE k (ns.take j) ++ (if decide ((k : Int) < y) = true then [((k : Int), y)] else []) := by
  rw [List.take_succ, h]
  unfold rowE
  rw [List.filter_append, List.map_append]
  congr 1
  by_cases z : (k : Int) < y <;> simp [z]
theorem rowE_len (k : Nat) (ns : List Int) : (rowE k ns).length ≤ ns.length := by
  unfold rowE
  rw [List.length_map]
  exact List.length_filter_le _ _
theorem edges_len : ∀ (k : Nat) (R : List (List Int)), (∀ row ∈ R, row.length ≤ 4) → (edgesFrom k R).length ≤ 4 * R.length
  | k, [], _ => Nat.le_refl _
  | k, r :: R, h => by
    have h1 := edges_len (k + 1) R fun row hr => h row (List.mem_cons_of_mem _ hr)
    have h2 := rowE_len k r
    have h3 := h r List.mem_cons_self
    show (rowE k r ++ edgesFrom (k + 1) R).length ≤ 4 * (R.length + 1)
    rw [List.length_append]
    omega
def RowT (H : Hp) (q : Addr) (ns : List Int) : Prop := Tup H q (ns.map V.int)
def PairAt (H : Hp) (q : Addr) (e : Int × Int) : Prop := H q = some (.tup [.int e.1, .int e.2])
theorem dp_pair {K : PySem.W.Frag} {H : Hp} {q : Addr} {e : Int × Int} (h : PairAt H q e) : Dp K H (.ref q) (dP e) := .tup (SqT.of h) (.cons (.int _) (.cons (.int _) .nil))
theorem dp_pairs {K : PySem.W.Frag} {H : Hp} {ps : List Addr} {L : List (Int × Int)} (h : Paired (PairAt H) ps L) : DpAll K H (ps.map V.ref) (L.map dP) := by
  induction h with
  | nil => exact .nil
  | cons a _ ih => exact .cons (dp_pair a) ih
/-- a network stands at p: the modes ms, the sorted rows R, the links L -/
structure NetAt (C : Addr) (H : Hp) (p : Addr) (ms : List Int) (R : List (List Int)) (L : List (Int × Int)) : Prop where
  ob : ∃ dx pm pn pl qs ps, H p = some (.ins C dx (putF "links" (.ref pl) (putF "_near" (.ref pn) (putF "modes" (.ref pm) [])))) ∧
    Tup H pm (ms.map V.int) ∧ H pn = some (.tup (qs.map V.ref)) ∧ Paired (RowT H) qs R ∧ H pl = some (.tup (ps.map V.ref)) ∧ Paired (PairAt H) ps L
theorem k_nm : ¬ (("_near" : Str) = "modes") := by decide +kernel
theorem k_lm : ¬ (("links" : Str) = "modes") := by decide +kernel
theorem k_ln : ¬ (("links" : Str) = "_near") := by decide +kernel
theorem look_modes {a b c : V} : (putF "links" a (putF "_near" b (putF "modes" c []))).lookup ("modes" : Str) = some c := by
  rw [lookup_putF, if_neg (fun z => k_lm z.symm), lookup_putF, if_neg (fun z => k_nm z.symm), lookup_putF, if_pos rfl]
theorem look_links {a b c : V} : (putF "links" a (putF "_near" b (putF "modes" c []))).lookup ("links" : Str) = some a := by
  rw [lookup_putF, if_pos rfl]
theorem look_near {a b c : V} : (putF "links" a (putF "_near" b (putF "modes" c []))).lookup ("_near" : Str) = some b := by
  rw [lookup_putF, if_neg (fun z => k_ln z.symm), lookup_putF, if_pos rfl]
/-- sorted rows: what linked_sites makes of rows -/
def spNet (K : PySem.W.Frag) (C CI : Addr) : Sp := fun vs H Q E => ∃ (s dx : Addr) (x z : V) (o : Option (List V)), vs = [.ref s, x, z] ∧ H s = some (.ins C dx []) ∧ SqX K H x o ∧
  (o = none → ErrX CI E s H 0) ∧ (o = some [] → ErrX CI E s H 0) ∧
  ∀ xs, o = some xs → xs ≠ [] → ∃ os, Paired (Kin K H) xs os ∧
    (∀ (i : Nat) o, os[i]? = some o → (∀ j o', j < i → os[j]? = some o' → bel4 o' = true) → bel4 o = false → ErrX CI E s H i) ∧
    ((∀ o ∈ os, bel4 o = true) → xs.length < 1000 ∧ ∃ ms : List Int, xs = ms.map V.int ∧ ∃ o2, SqX K H z o2 ∧ (o2 = none → ErrX CI E s H ms.length) ∧
      ∀ zs, o2 = some zs → ∃ es, Paired (LkIs K H ms.length) zs es ∧
        (∀ (i : Nat) e R, es[i]? = some e → runP (emptyR ms.length) (es.take i) = some R → okL R e = false → ErrX CI E s H (ms.length + i)) ∧
        (∀ R, runP (emptyR ms.length) es = some R → Le4 R → ∀ H' R', Ex s H H' → Paired (fun (a b : List Int) => a.Perm b ∧ a.Pairwise (· ≤ ·)) R' R → NetAt C H' s ms R' (edgesFrom 0 R') → Q .non H'))
section
variable {P : Program} {w : World} {K : PySem.W.Frag} {mg : Str → Option Value} {base : Heap} (T : TX K mg)
theorem G_Network_init : FnOk P w K mg base (L2.CX P w) 6 T.f_Network_init T.d_Network_init ["self", "modes", "links"] (spNet K T.c_Network T.c_InvalidNetwork) := by
  refine T.F_Network_init.okX sc_Network_init (fun vs H Q E h => ?_) fun cdv A outer s H vs Q E hr h => ⟨_, (pss_cons (ps_fldK (K := K) (pv 0) (pe_call (G_checked_modes T) (hr.mono (by decide)) (by rfl) T.m_checked_modes T.F_checked_modes.kp T.b_checked_modes .nil (passes_call (takes_of rfl rfl rfl rfl) fun _ _ _ _ z => z) (by exact (pa_cons (pv 1) pa_nil)))) (pss_cons (ps_fldK (K := K) (pv 0) (pe_call (G_linked_sites T) (hr.mono (by decide)) (by rfl) T.m_linked_sites T.F_linked_sites.kp T.b_linked_sites .nil (passes_call (takes_of rfl rfl rfl rfl) fun _ _ _ _ z => z) (by exact (pa_cons (pe_callB (cr_lenK (K := K)) (by rfl) T.n_len (by decide +kernel) (by exact (pa_cons (pe_fldK (K := K) (pv 0)) pa_nil))) (pa_cons (pv 2) pa_nil))))) (pss_one (ps_fldK (K := K) (pv 0) (pe_tupleK (K := K) (by rfl) T.n_tuple (by exact (pe_lc2 (own := [("one", 3), ("near", 4), ("other", 5)]) (vs1 := [5]) (by rfl) sc_Network_init.nd (pi_enumTK (K := K) (by rfl) T.n_enumerate (by exact (pa_cons (pe_fldK (K := K) (pv 0)) pa_nil))) (blkOk_by (own := [("one", 3), ("near", 4), ("other", 5)]) (N := N_Network_init) (sc := defScope s_Network_init) (by decide +kernel)) (by decide) (fun _ _ _ _ _ => (pg_tupK (K := K) (n := 2) (by rfl) (pgs_cons (pg_name (i := 3) sc_Network_init.nd rfl (.inl rfl)) (pgs_cons (pg_name (i := 4) sc_Network_init.nd rfl (.inl rfl)) pgs_nil)))) (fun _ _ _ _ _ => pts_nil) (fun _ _ _ _ _ => (by exact (pi_tupK (K := K) (pv 4)))) (fun _ _ _ _ _ => (pg_name (i := 5) sc_Network_init.nd rfl (.inl rfl))) (fun _ _ _ _ _ => pts_one (pt_cmpR op_lt (pv 3) (pv 5) (nomark _))) (fun _ _ _ _ _ => (pe_tup (pa_cons (pv 3) (pa_cons (pv 5) pa_nil)))) ))))))), ?_⟩
  · obtain ⟨s, dx, x, z, o, rfl, _⟩ := h
    rfl
  · obtain ⟨s', dx, x, z, o, rfl, hs, hx, hE0, hE1, hM⟩ := h
    have sn : ∀ {H' : Hp}, Ex s' H H' → Sn H H' := fun h => h.sn hs
    walk_at "rd"
    refine ⟨x, o, rfl, hx, fun e H' d S hd => hE0 e H' d (.same S) hd, fun e H' d S hd => hE1 e H' d (.same S) hd, fun xs e h0 => ?_⟩
    obtain ⟨os, hos, hbad, hgood⟩ := hM xs e h0
    refine ⟨os, hos, fun i o h1 h2 h3 H' d S hd => hbad i o h1 h2 h3 H' d (.same S) hd, fun hall H1 pm S1 hpm => ?_⟩
    obtain ⟨hl, ms, rfl, o2, hz, hF0, hF⟩ := hgood hall
    walk_at "rd"
    refine ⟨s', _, dx, _, rfl, S1 _ _ hs, T.C_Network, T.A_Network_modes, by decide, ?_⟩
    have X2 : Ex s' H (upd H1 s' (.ins T.c_Network dx (putF "modes" (.ref pm) []))) := (Ex.same S1).trans .upd
    have hs2 : upd H1 s' (.ins T.c_Network dx (putF "modes" (.ref pm) [])) s' = some (.ins T.c_Network dx (putF "modes" (.ref pm) [])) := upd_same
    have hpm2 : Tup (upd H1 s' (.ins T.c_Network dx (putF "modes" (.ref pm) []))) pm (ms.map V.int) := tup_sn hpm ((Ex.upd (s := s')).sn (S1 _ _ hs))
    generalize upd H1 s' (.ins T.c_Network dx (putF "modes" (.ref pm) [])) = H2 at X2 hs2 hpm2
    walk_at "rd"
    refine ⟨s', _, dx, _, _, rfl, hs2, T.C_Network, T.A_Network_modes, by rw [lookup_putF, if_pos rfl], ?_⟩
    walk_at "rd"
    refine rd_lenTup hpm2 ?_
    walk_at "rd"
    rw [List.length_map]
    have len : ms.length < 1000 := by simpa using hl
    refine ⟨ms.length, z, o2, rfl, len, sqx_sn hz (sn X2), fun e H' d S hd => hF0 e H' d (X2.trans (.same S)) hd, fun zs e => ?_⟩
    obtain ⟨es, hes, hbad2, hgood2⟩ := hF zs e
    refine ⟨es, paired_mono hes fun a b h => lk_sn h (sn X2), fun i e R h1 h2 h3 H' d S hd => hbad2 i e R h1 h2 h3 H' d (X2.trans (.same S)) hd, fun R hR lR h4R H3 pn qs S3 hpn hqs => ?_⟩
    walk_at "rd"
    refine ⟨s', _, dx, _, rfl, S3 _ _ hs2, T.C_Network, T.A_Network__near, by show 1 < 1000; decide, ?_⟩
    have X4 : Ex s' H (upd H3 s' (.ins T.c_Network dx (putF "_near" (.ref pn) (putF "modes" (.ref pm) [])))) := (X2.trans (.same S3)).trans .upd
    have hs4 : upd H3 s' (.ins T.c_Network dx (putF "_near" (.ref pn) (putF "modes" (.ref pm) []))) s' = some (.ins T.c_Network dx (putF "_near" (.ref pn) (putF "modes" (.ref pm) []))) := upd_same
    have sn4 : Sn H3 (upd H3 s' (.ins T.c_Network dx (putF "_near" (.ref pn) (putF "modes" (.ref pm) [])))) := (Ex.upd (s := s')).sn (S3 _ _ hs2)
    have hpm4 := tup_sn (hpm2.same S3) sn4
    have hpn4 := sn4 _ _ (by intro _ _ _ z; cases z) hpn
    have hqs4 := paired_mono hqs fun q row (h : SrtAt H3 q row) => (show SrtAt _ q row from let ⟨ns, a, b, c⟩ := h; ⟨ns, a, b, tup_sn c sn4⟩)
    clear sn4
    generalize upd H3 s' (.ins T.c_Network dx (putF "_near" (.ref pn) (putF "modes" (.ref pm) []))) = H4 at X4 hs4 hpm4 hpn4 hqs4
    obtain ⟨R', hR', hqR⟩ : ∃ R' : List (List Int), Paired (fun (a b : List Int) => a.Perm b ∧ a.Pairwise (· ≤ ·)) R' R ∧ Paired (fun q (ns : List Int) => Tup H4 q (ns.map V.int)) qs R' := by
      clear hpn4 hpn hgood2 hqs hR lR h4R
      induction hqs4 with
      | nil => exact ⟨[], .nil, .nil⟩
      | cons h _ ih =>
        obtain ⟨ns, h1, h2, h3⟩ := h
        obtain ⟨R', a, b⟩ := ih
        exact ⟨ns :: R', .cons ⟨h1, h2⟩ a, .cons h3 b⟩
    walk_at "rd"
    unfold tLc2
    walk_at "rd"
    refine ⟨s', _, dx, _, _, rfl, hs4, T.C_Network, T.A_Network__near, by rw [lookup_putF, if_pos rfl], ?_⟩
    walk_at "rd"
    refine ⟨pn, _, rfl, SqT.of hpn4, fun D hD => ?_⟩
    have le' : ∀ row ∈ R', row.length ≤ 4 := by
      clear hqR hR lR hgood2 hqs hqs4
      induction hR' with
      | nil => intro row h; simp at h
      | @cons a b l m hab _ ih =>
        intro row h
        rcases List.mem_cons.mp h with e | e
        · rw [e, hab.1.length_eq]; exact h4R b List.mem_cons_self
        · exact ih (fun row h => h4R row (List.mem_cons_of_mem _ h)) row e
    have lqs := paired_len hqR
    have lR' := paired_len hR'
    refine it_wk (walk_enumT (K := K) (xs := qs.map V.ref)) (fun i H' => Same H4 H' ∧ ∃ ps : List Addr, H' D = some (.lst (ps.map V.ref)) ∧ Paired (PairAt H') ps (edgesFrom 0 (R'.take i)))
      ⟨Same.fresh hD, [], upd_same, .nil⟩ (fun i H' _ p => SqT.of (p.1 _ _ hpn4)) (fun i v H5 H6 hi p y => ?_) (fun H5 p => ?_)
    · obtain ⟨S5, ps, hps, hP⟩ := p
      obtain ⟨t, a, b, rfl, ht, rfl, ha, hb⟩ := y
      have ha : some (V.int (i : Nat)) = some a := ha
      cases ha
      have hb : (qs.map V.ref)[i]? = some b := hb
      rw [List.getElem?_map] at hb
      obtain ⟨q, hq, rfl⟩ := Option.map_eq_some_iff.mp hb
      obtain ⟨ns, hns, hqn⟩ := paired_get hqR hq
      have S6 : Same H5 (upd H5 t (.tup [.int (i : Nat), .ref q])) := Same.fresh ht
      have et : upd H5 t (.tup [.int (i : Nat), .ref q]) t = some (.tup [.int (i : Nat), .ref q]) := upd_same
      generalize upd H5 t (.tup [.int (i : Nat), .ref q]) = H6 at S6 et
      have hi' : i < ms.length := by
        rw [List.length_map] at hi
        omega
      have ln : ns.length ≤ 4 := le' ns (List.mem_of_getElem? hns)
      refine rd_gtup (Tup.of et) rfl ?_
      walk_at "rd"
      refine ⟨rfl, ?_⟩
      walk_at "rd"
      refine ⟨_, rfl, ⟨_, (hqn.same (S5.trans S6)).sq⟩, ?_⟩
      refine it_wk (walk_tup (K := K) (xs := ns.map V.int)) (fun j H' => Same H4 H' ∧ ∃ ps : List Addr, H' D = some (.lst (ps.map V.ref)) ∧ Paired (PairAt H') ps (edgesFrom 0 (R'.take i) ++ rowE i (ns.take j)))
        ⟨S5.trans S6, ps, S6 _ _ hps, by
          have e : rowE i (ns.take 0) = [] := rfl
          rw [e, List.append_nil]
          exact paired_mono hP fun a b h => S6 _ _ h⟩ (fun j H' _ p => (hqn.same p.1).sq) (fun j v H7 H8 hj p y => ?_) (fun H7 p => ?_)
      · obtain ⟨rfl, hx⟩ := y
        obtain ⟨S7, ps, hps, hP⟩ := p
        rw [List.getElem?_map] at hx
        obtain ⟨y, hy, rfl⟩ := Option.map_eq_some_iff.mp hx
        walk_at "rd"
        refine ⟨rfl, ?_⟩
        walk_at "rd"
        rw [rowE_take i hy]
        by_cases z : decide ((i : Int) < y) = true
        · refine iteT' z ?_
          rw [if_pos z]
          walk_at "rd"
          intro u H9 hu S9 hu9
          have hps9 := S9 _ _ hps
          have nu : u ≠ D := fun z => by rw [z, hps] at hu; cases hu
          refine ⟨_, hps9, ?_, Same.put (S7.trans S9) hD, ps ++ [u], by rw [upd_same]; simp, ?_⟩
          · rw [List.length_map, paired_len hP, List.length_append]
            have h1 := edges_len 0 (R'.take i) fun row hr => le' row (List.mem_of_mem_take hr)
            have h2 := rowE_len i (ns.take j)
            rw [List.length_take] at h1 h2
            exact Nat.lt_of_lt_of_le (by omega : _ < 5000) (by decide)
          · rw [← List.append_assoc]
            refine Paired.snoc (paired_mono hP fun a c (h : PairAt _ a c) => ?_) ?_
            · show upd H9 D _ a = _
              have h' : H9 a = _ := S9 _ _ h
              rw [upd_ne (fun z => by rw [z, hps9] at h'; cases h')]
              exact h'
            · show upd H9 D _ u = _
              rw [upd_ne nu]
              exact hu9
        · refine iteF' (by simpa using z) ?_
          rw [if_neg z, List.append_nil]
          exact ⟨S7, ps, hps, hP⟩
      · obtain ⟨S7, ps, hps, hP⟩ := p
        rw [List.length_map, List.take_length] at hP
        refine ⟨S7, ps, hps, ?_⟩
        rw [edges_take R' hns]
        exact hP
    · obtain ⟨S5, ps, hps, hP⟩ := p
      rw [List.length_map, lqs, List.take_length] at hP
      refine rd_tupL hps ?_
      intro pl H6 hpl S6 hpl6
      walk_at "rd"
      have S46 := S5.trans S6
      refine ⟨s', _, dx, _, rfl, S46 _ _ hs4, T.C_Network, T.A_Network_links, ?_, ?_⟩
      · have e : putF "_near" (V.ref pn) (putF "modes" (V.ref pm) []) = [(("modes" : Str), V.ref pm), ("_near", V.ref pn)] := by
          show (if ("modes" : Str) = "_near" then _ else (("modes" : Str), V.ref pm) :: putF "_near" (V.ref pn) []) = _
          rw [if_neg (fun z => k_nm z.symm)]
          rfl
        rw [e]
        show 2 < 1000
        decide
      walk_at "rd"
      have X7 : Ex s' H (upd H6 s' (.ins T.c_Network dx (putF "links" (.ref pl) (putF "_near" (.ref pn) (putF "modes" (.ref pm) []))))) := (X4.trans (.same S46)).trans .upd
      have sn7 : Sn H6 (upd H6 s' (.ins T.c_Network dx (putF "links" (.ref pl) (putF "_near" (.ref pn) (putF "modes" (.ref pm) []))))) := (Ex.upd (s := s')).sn (S46 _ _ hs4)
      refine hgood2 R hR h4R _ R' X7 hR' ⟨dx, pm, pn, pl, qs, ps, upd_same, tup_sn (hpm4.same S46) sn7, sn7 _ _ (by intro _ _ _ z; cases z) (S46 _ _ hpn4), paired_mono hqR fun a b h => tup_sn (Tup.same h S46) sn7, sn7 _ _ (by intro _ _ _ z; cases z) hpl6, paired_mono hP fun a b (h : PairAt _ a b) => sn7 _ _ (by intro _ _ _ z; cases z) (S6 _ _ h)⟩
/-- == of two networks -/
def spEqN (K : PySem.W.Frag) (C : Addr) : Sp := fun vs H Q _ => ∃ (p : Addr) (y : V) (ms : List Int) (R : List (List Int)) (L : List (Int × Int)), vs = [.ref p, y] ∧ NetAt C H p ms R L ∧ ms.length < 1000 ∧ L.length < 1000 ∧
  ((∃ n, TyX K H y (.type n) ∧ PySem.W.kitOne K (.type n) (.ref C) = some false ∧ Q (.bl false) H) ∨
   (∃ q ms' R' L', y = .ref q ∧ NetAt C H q ms' R' L' ∧ ms'.length < 1000 ∧ L'.length < 1000 ∧ Q (.bl (decide (ms = ms') && decide (L = L'))) H))
theorem G_Network_eq : FnOk P w K mg base CX0 1 T.f_Network_eq T.d_Network_eq ["self", "other"] (spEqN K T.c_Network) := by
  refine T.F_Network_eq.ok sc_Network_eq (fun vs H Q E h => ?_) fun cdv A outer s H vs Q E hr h => ⟨_, (pss_one (ps_ret (pe_and (pe_callB (cr_isiK (K := K)) (by rfl) T.n_isinstance (by decide +kernel) (by exact (pa_cons (pv 1) (pa_cons (pe_glob (v := .ref T.c_Network) rfl T.m_Network rfl) pa_nil)))) (pe_and (pe_cmpR (op_eqDK (K := K) hr.units) (pe_fldK (K := K) (pv 0)) (pe_fldK (K := K) (pv 1)) (nomark _)) (pe_one (pe_cmpR (op_eqDK (K := K) hr.units) (pe_fldK (K := K) (pv 0)) (pe_fldK (K := K) (pv 1)) (nomark _))))))), ?_⟩
  · obtain ⟨p, y, ms, R, L, rfl, _⟩ := h
    rfl
  · obtain ⟨p, y, ms, R, L, rfl, hN, l1, l2, h⟩ := h
    walk_at "rd"
    obtain ⟨dx, pm, pn, pl, qs, ps, hp, hpm, hpn, hqs, hpl, hps⟩ := hN.ob
    rcases h with ⟨n, ty, kit, hQ⟩ | ⟨q, ms', R', L', rfl, hN', l1', l2', hQ⟩
    · refine ⟨_, _, _, _, false, rfl, .own _, ty, kit, ?_⟩
      walk_at "rd"
      exact hQ
    · obtain ⟨dx', pm', pn', pl', qs', ps', hp', hpm', hpn', hqs', hpl', hps'⟩ := hN'.ob
      refine ⟨_, _, _, _, true, rfl, .own _, T.I_Network.ty hp', T.I_Network.kit, ?_⟩
      walk_at "rd"
      refine ⟨p, _, dx, _, _, rfl, hp, T.C_Network, T.A_Network_modes, look_modes, ?_⟩
      walk_at "rd"
      refine ⟨q, _, dx', _, _, rfl, hp', T.C_Network, T.A_Network_modes, look_modes, ?_⟩
      refine ⟨.tuple (ms.map PyData.int), .tuple (ms'.map PyData.int), .tup hpm.sq (dA_ints K H ms), .tup hpm'.sq (dA_ints K H ms'), dA_sh ms, dA_sh ms', ?_⟩
      have e1 : PyData.eqv (.tuple (ms.map PyData.int)) (.tuple (ms'.map PyData.int)) = decide (ms = ms') := dA_eqv ms ms'
      rw [e1]
      walk_at "rd"
      by_cases h1 : ms = ms'
      · rw [decide_eq_true h1, Bool.true_and] at hQ
        refine iteT' (decide_eq_true h1) ?_
        walk_at "rd"
        refine ⟨p, _, dx, _, _, rfl, hp, T.C_Network, T.A_Network_links, look_links, ?_⟩
        walk_at "rd"
        refine ⟨q, _, dx', _, _, rfl, hp', T.C_Network, T.A_Network_links, look_links, ?_⟩
        refine ⟨.tuple (L.map dP), .tuple (L'.map dP), .tup (SqT.of hpl) (dp_pairs hps), .tup (SqT.of hpl') (dp_pairs hps'), dP_shT L, dP_shT L', ?_⟩
        have e2 : PyData.eqv (.tuple (L.map dP)) (.tuple (L'.map dP)) = decide (L = L') := dP_eqv L L'
        rw [e2]
        exact hQ
      · rw [decide_eq_false h1, Bool.false_and] at hQ
        refine iteF' (decide_eq_false h1) ?_
        walk_at "rd"
        exact hQ
end
end K71

namespace K71
open PySem PySem.Spec PyProof.Rows L2 KX
/-! ### lists of links -/
/-- whether a link meets a site -/
def inc (s : Int) (e : Int × Int) : Bool := decide (e.1 = s) || decide (e.2 = s)
def norm (e : Int × Int) : Int × Int := if e.1 ≤ e.2 then e else (e.2, e.1)
/-- the links, the lesser site first, unlike, at most d at a site -/
structure Good (n : Nat) (d : Nat) (L : List (Int × Int)) : Prop where
  rng : ∀ e ∈ L, 0 ≤ e.1 ∧ e.1 < e.2 ∧ e.2 < n
  nd : L.Nodup
  deg : ∀ s : Int, (L.filter (inc s)).length ≤ d
def lexlt (e f : Int × Int) : Prop := e.1 < f.1 ∨ e.1 = f.1 ∧ e.2 < f.2
/-- who is linked to a, in the order of the links, each way round -/
def nb (M : List (Int × Int)) (a : Int) : List Int := M.filterMap fun e => if e.1 = a then some e.2 else if e.2 = a then some e.1 else none
theorem nb_append (M M' : List (Int × Int)) (a : Int) : nb (M ++ M') a = nb M a ++ nb M' a := by unfold nb; exact List.filterMap_append
theorem nb_one (x y a : Int) : nb [(x, y)] a = if x = a then [y] else if y = a then [x] else [] := by
  unfold nb
  by_cases h1 : x = a
  · simp [h1]
  · by_cases h2 : y = a <;> simp [h1, h2]
theorem mem_nb {M : List (Int × Int)} {a b : Int} (h : b ∈ nb M a) : (a, b) ∈ M ∨ (b, a) ∈ M := by
  unfold nb at h
  obtain ⟨⟨x, y⟩, hm, he⟩ := List.mem_filterMap.mp h
  by_cases h1 : x = a
  · simp [h1] at he
    left; rw [← h1, ← he]; exact hm
  · by_cases h2 : y = a
    · simp [h1, h2] at he
      right; rw [← h2, ← he]; exact hm
    · simp [h1, h2] at he
theorem nb_mem {M : List (Int × Int)} {a b : Int} (ne : a ≠ b) (h : (a, b) ∈ M ∨ (b, a) ∈ M) : b ∈ nb M a := by
  unfold nb
  rcases h with h | h
  · exact List.mem_filterMap.mpr ⟨_, h, by simp⟩
  · exact List.mem_filterMap.mpr ⟨_, h, by simp [Ne.symm ne]⟩
/-- the length of the row: how many links meet the site -/
theorem nb_len (M : List (Int × Int)) (a : Int) : (nb M a).length = (M.filter (inc a)).length := by
  induction M with
  | nil => rfl
  | cons e M ih =>
    obtain ⟨x, y⟩ := e
    have h : nb ((x, y) :: M) a = nb [(x, y)] a ++ nb M a := nb_append [(x, y)] M a
    rw [h, nb_one, List.length_append, ih]
    by_cases h1 : x = a
    · simp [inc, h1]; omega
    · by_cases h2 : y = a
      · simp [inc, h1, h2]; omega
      · simp [inc, h1, h2]
theorem inc_norm (a : Int) (e : Int × Int) : inc a (norm e) = inc a e := by
  unfold norm
  split
  · rfl
  · show (decide (e.2 = a) || decide (e.1 = a)) = (decide (e.1 = a) || decide (e.2 = a))
    exact Bool.or_comm _ _
theorem norm_inj {x y u v : Int} (h : norm (x, y) = norm (u, v)) : (x = u ∧ y = v) ∨ (x = v ∧ y = u) := by
  unfold norm at h
  simp only at h
  split at h <;> split at h <;> simp at h <;> omega
/-! ### running through good links -/
theorem addR_nb {n : Nat} {R : List (List Int)} {M : List (Int × Int)} {a b : Int} (l : R.length = n) (hR : ∀ c : Int, 0 ≤ c → c < n → rowOf R c = nb M c) (a0 : 0 ≤ a) (a1 : a < n) (b0 : 0 ≤ b) (b1 : b < n) (ne : a ≠ b) :
    ∀ c : Int, 0 ≤ c → c < n → rowOf (addR R (some (a, b))) c = nb (M ++ [(a, b)]) c := by
  intro c c0 c1
  have h : nb (M ++ [(a, b)]) c = nb M c ++ nb [(a, b)] c := nb_append _ _ _
  rw [h, nb_one]
  show rowOf (appR (appR R a b) b a) c = _
  by_cases ha : a = c
  · subst ha
    rw [if_pos rfl, rowOf_app (by omega), rowOf_app_self (by omega), hR a a0 a1]
  · rw [if_neg ha]
    by_cases hb : b = c
    · subst hb
      rw [if_pos rfl, rowOf_app_self (by rw [appR_len]; omega), rowOf_app (by omega), hR b b0 b1]
    · rw [if_neg hb, rowOf_app (by omega), rowOf_app (by omega), hR c c0 c1, List.append_nil]
/-- the entries in turn: each can be linked behind those before -/
def Runs (n : Nat) (M : List (Int × Int)) : Prop := ∀ (i : Nat) (e : Int × Int), M[i]? = some e →
  0 ≤ e.1 ∧ e.1 < n ∧ 0 ≤ e.2 ∧ e.2 < n ∧ e.1 ≠ e.2 ∧ e.2 ∉ nb (M.take i) e.1 ∧ (nb (M.take i) e.1).length < 4 ∧ (nb (M.take i) e.2).length < 4
theorem rowOf_empty (n : Nat) (c : Int) : rowOf (emptyR n) c = [] := by
  unfold rowOf emptyR
  rw [List.getD_eq_getElem?_getD, List.getElem?_replicate]
  split <;> rfl
theorem runs_nb {n : Nat} {M : List (Int × Int)} (h : Runs n M) : ∀ i, i ≤ M.length → ∃ R, runP (emptyR n) ((M.take i).map some) = some R ∧ R.length = n ∧ ∀ c : Int, 0 ≤ c → c < n → rowOf R c = nb (M.take i) c := by
  intro i
  induction i with
  | zero => intro _; exact ⟨emptyR n, rfl, by simp [emptyR], fun c _ _ => by rw [rowOf_empty]; rfl⟩
  | succ i ih =>
    intro hi
    obtain ⟨R, hR, hl, hr⟩ := ih (by omega)
    obtain ⟨e, he⟩ : ∃ e, M[i]? = some e := ⟨_, List.getElem?_eq_getElem (by omega)⟩
    obtain ⟨a, b⟩ := e
    obtain ⟨a0, a1, b0, b1, ne, h1, h2, h3⟩ := h i _ he
    have et : M.take (i + 1) = M.take i ++ [(a, b)] := by rw [List.take_succ, he]; rfl
    have ok : okL R (some (a, b)) = true := by
      show (!decide (b ∈ rowOf R a) && (decide ((rowOf R a).length < 4) && decide ((rowOf R b).length < 4))) = true
      rw [hr a a0 a1, hr b b0 b1, decide_eq_false h1, decide_eq_true h2, decide_eq_true h3]; rfl
    refine ⟨addR R (some (a, b)), ?_, by rw [addR_len]; exact hl, ?_⟩
    · rw [et, List.map_append]
      show runP (emptyR n) ((M.take i).map some ++ [some (a, b)]) = _
      rw [runP_snoc, hR]
      show stepL R (some (a, b)) = _
      unfold stepL
      rw [if_pos ok]
    · rw [et]
      exact addR_nb hl hr a0 a1 b0 b1 ne
theorem filter_len_le {M : List (Int × Int)} {p : Int × Int → Bool} {i : Nat} {e : Int × Int} (h : M[i]? = some e) (hp : p e = true) : ((M.take i).filter p).length < (M.filter p).length := by
  have hi := (List.getElem?_eq_some_iff.mp h).1
  have e1 : M = M.take (i + 1) ++ M.drop (i + 1) := (List.take_append_drop _ _).symm
  have et : M.take (i + 1) = M.take i ++ [e] := by rw [List.take_succ, h]; rfl
  have z : (M.filter p).length = ((M.take (i + 1)).filter p).length + ((M.drop (i + 1)).filter p).length := by
    have e2 : M.filter p = (M.take (i + 1)).filter p ++ (M.drop (i + 1)).filter p := by
      rw [← List.filter_append, List.take_append_drop]
    rw [e2, List.length_append]
  rw [z, et, List.filter_append, List.length_append]
  simp [hp]
  omega
theorem perm_filter_len {L M : List (Int × Int)} (h : L.Perm M) (p : Int × Int → Bool) : (L.filter p).length = (M.filter p).length := (h.filter p).length_eq
theorem map_norm_filter (M : List (Int × Int)) (a : Int) : ((M.map norm).filter (inc a)).length = (M.filter (inc a)).length := by
  rw [List.filter_map, List.length_map]
  have e : (inc a ∘ norm) = inc a := funext fun x => inc_norm a x
  rw [e]
/-- links, each way round, in any order -/
theorem runs_of {n : Nat} {L M : List (Int × Int)} (g : Good n 4 L) (h : (M.map norm).Perm L) : Runs n M := by
  intro i e he
  have hm := List.mem_of_getElem? he
  have hi := (List.getElem?_eq_some_iff.mp he).1
  have hn : norm e ∈ L := h.mem_iff.mp (List.mem_map.mpr ⟨e, hm, rfl⟩)
  obtain ⟨r0, r1, r2⟩ := g.rng _ hn
  obtain ⟨x, y⟩ := e
  have rr : 0 ≤ x ∧ x < n ∧ 0 ≤ y ∧ y < n ∧ x ≠ y := by
    unfold norm at r0 r1 r2
    simp only at r0 r1 r2
    split at r0 <;> simp_all <;> omega
  obtain ⟨a0, a1, b0, b1, ne⟩ := rr
  refine ⟨a0, a1, b0, b1, ne, fun hb => ?_, ?_, ?_⟩
  · -- twice the same link
    have nd : (M.map norm).Nodup := h.nodup_iff.mpr g.nd
    have : ∃ f ∈ M.take i, norm f = norm (x, y) := by
      rcases mem_nb hb with z | z
      · exact ⟨_, z, rfl⟩
      · refine ⟨_, z, ?_⟩
        unfold norm
        simp only
        split <;> split <;> simp <;> omega
    obtain ⟨f, hf, hff⟩ := this
    obtain ⟨j, hj⟩ := List.getElem?_of_mem hf
    have hji : j < i := by
      have := (List.getElem?_eq_some_iff.mp hj).1
      rw [List.length_take] at this
      omega
    rw [List.getElem?_take_of_lt hji] at hj
    have e1 : (M.map norm)[j]? = some (norm (x, y)) := by rw [List.getElem?_map, hj]; simp [hff]
    have e2 : (M.map norm)[i]? = some (norm (x, y)) := by rw [List.getElem?_map, he]; rfl
    have := (List.getElem?_inj (by rw [List.length_map]; omega) nd).mp (e1.trans e2.symm)
    omega
  · rw [nb_len]
    show ((M.take i).filter (inc x)).length < 4
    have h1 := filter_len_le (p := inc x) he (by simp [inc])
    have h2 := map_norm_filter M x
    have h3 := perm_filter_len h (inc x)
    have h4 := g.deg x
    omega
  · rw [nb_len]
    show ((M.take i).filter (inc y)).length < 4
    have h1 := filter_len_le (p := inc y) he (by simp [inc])
    have h2 := map_norm_filter M y
    have h3 := perm_filter_len h (inc y)
    have h4 := g.deg y
    omega
/-! ### the links of the sorted rows -/
theorem lex_uniq : ∀ {L M : List (Int × Int)}, L.Pairwise lexlt → M.Pairwise lexlt → (∀ e, e ∈ L ↔ e ∈ M) → L = M
  | [], [], _, _, _ => rfl
  | [], m :: M, _, _, h => by have := (h m).mpr List.mem_cons_self; simp at this
  | l :: L, [], _, _, h => by have := (h l).mp List.mem_cons_self; simp at this
  | l :: L, m :: M, hl, hm, h => by
    obtain ⟨l1, l2⟩ := List.pairwise_cons.mp hl
    obtain ⟨m1, m2⟩ := List.pairwise_cons.mp hm
    have e : l = m := by
      rcases List.mem_cons.mp ((h l).mp List.mem_cons_self) with z | z
      · exact z
      · rcases List.mem_cons.mp ((h m).mpr List.mem_cons_self) with y | y
        · exact y.symm
        · have a := m1 l z
          have b := l1 m y
          exfalso
          unfold lexlt at a b
          omega
    subst e
    have : L = M := lex_uniq l2 m2 fun e => by
      constructor
      · intro he
        rcases List.mem_cons.mp ((h e).mp (List.mem_cons_of_mem _ he)) with z | z
        · exfalso
          have := l1 e he
          rw [z] at this
          unfold lexlt at this
          omega
        · exact z
      · intro he
        rcases List.mem_cons.mp ((h e).mpr (List.mem_cons_of_mem _ he)) with z | z
        · exfalso
          have := m1 e he
          rw [z] at this
          unfold lexlt at this
          omega
        · exact z
    rw [this]
theorem mem_edges : ∀ (R : List (List Int)) (k : Nat) (e : Int × Int), e ∈ edgesFrom k R ↔ ∃ (i : Nat) (row : List Int), R[i]? = some row ∧ e.1 = ((k + i : Nat) : Int) ∧ e.2 ∈ row ∧ e.1 < e.2
  | [], k, e => by simp [edgesFrom]
  | r :: R, k, e => by
    have ih := mem_edges R (k + 1) e
    show e ∈ rowE k r ++ edgesFrom (k + 1) R ↔ _
    rw [List.mem_append, ih]
    constructor
    · rintro (h | ⟨i, row, h1, h2, h3⟩)
      · unfold rowE at h
        obtain ⟨j, hj, rfl⟩ := List.mem_map.mp h
        obtain ⟨h1, h2⟩ := List.mem_filter.mp hj
        exact ⟨0, r, rfl, by simp, h1, by simpa using h2⟩
      · exact ⟨i + 1, row, by simpa using h1, by rw [h2]; omega, h3⟩
    · rintro ⟨i, row, h1, h2, h3, h4⟩
      cases i with
      | zero =>
        left
        simp at h1
        subst h1
        unfold rowE
        obtain ⟨x, y⟩ := e
        have h2 : x = (k : Int) := by simpa using h2
        subst h2
        exact List.mem_map.mpr ⟨y, List.mem_filter.mpr ⟨h3, by simpa using h4⟩, rfl⟩
      | succ i => exact .inr ⟨i, row, by simpa using h1, by rw [h2]; omega, h3, h4⟩
theorem edges_lex : ∀ (R : List (List Int)) (k : Nat), (∀ row ∈ R, row.Pairwise (· < ·)) → (edgesFrom k R).Pairwise lexlt
  | [], k, _ => .nil
  | r :: R, k, h => by
    show (rowE k r ++ edgesFrom (k + 1) R).Pairwise lexlt
    refine List.pairwise_append.mpr ⟨?_, edges_lex R (k + 1) fun row hr => h row (List.mem_cons_of_mem _ hr), fun a ha b hb => ?_⟩
    · unfold rowE
      refine List.pairwise_map.mpr (List.Pairwise.filter _ ((h r List.mem_cons_self).imp fun hab => .inr ⟨rfl, hab⟩))
    · unfold rowE at ha
      obtain ⟨j, _, rfl⟩ := List.mem_map.mp ha
      obtain ⟨i, row, _, e, _⟩ := (mem_edges R (k + 1) b).mp hb
      left
      show (k : Int) < b.1
      omega
theorem nb_nodup {M : List (Int × Int)} {a : Int} (h : ∀ i e, M[i]? = some e → e.1 ≠ e.2 ∧ e.2 ∉ nb (M.take i) e.1 ∧ e.1 ∉ nb (M.take i) e.2) : (nb M a).Nodup := by
  have gen : ∀ i, i ≤ M.length → (nb (M.take i) a).Nodup := by
    intro i
    induction i with
    | zero => intro _; exact .nil
    | succ i ih =>
      intro hi
      obtain ⟨e, he⟩ : ∃ e, M[i]? = some e := ⟨_, List.getElem?_eq_getElem (by omega)⟩
      obtain ⟨x, y⟩ := e
      obtain ⟨ne, h1, h2⟩ := h i _ he
      have et : M.take (i + 1) = M.take i ++ [(x, y)] := by rw [List.take_succ, he]; rfl
      rw [et, nb_append, nb_one]
      by_cases hx : x = a
      · rw [if_pos hx]
        subst hx
        exact List.nodup_append.mpr ⟨ih (by omega), by simp, fun u hu v hv => by
          rw [List.mem_singleton.mp hv]
          exact fun z => h1 (by rw [← z]; exact hu)⟩
      · rw [if_neg hx]
        by_cases hy : y = a
        · rw [if_pos hy]
          subst hy
          exact List.nodup_append.mpr ⟨ih (by omega), by simp, fun u hu v hv => by
            rw [List.mem_singleton.mp hv]
            exact fun z => h2 (by rw [← z]; exact hu)⟩
        · rw [if_neg hy, List.append_nil]
          exact ih (by omega)
  have := gen M.length (Nat.le_refl _)
  rwa [List.take_length] at this
theorem le_lt_of_nodup {l : List Int} (h : l.Pairwise (· ≤ ·)) (nd : l.Nodup) : l.Pairwise (· < ·) := by
  have : l.Pairwise (fun a b => a ≤ b ∧ a ≠ b) := h.and nd
  exact this.imp fun ⟨a, b⟩ => by omega
/-- what the rows of good links tell: the links again -/
theorem edges_back {n : Nat} {L M : List (Int × Int)} {R R' : List (List Int)} (g : Good n 4 L) (s : L.Pairwise lexlt) (h : (M.map norm).Perm L) (hR : runP (emptyR n) (M.map some) = some R)
    (p : Paired (fun (a b : List Int) => a.Perm b ∧ a.Pairwise (· ≤ ·)) R' R) : edgesFrom 0 R' = L := by
  have rs := runs_of g h
  obtain ⟨R0, hR0, hl, hr⟩ := runs_nb rs M.length (Nat.le_refl _)
  rw [List.take_length] at hR0 hr
  rw [hR] at hR0
  cases hR0
  have sym : ∀ i e, M[i]? = some e → e.1 ≠ e.2 ∧ e.2 ∉ nb (M.take i) e.1 ∧ e.1 ∉ nb (M.take i) e.2 := fun i e he => by
    obtain ⟨_, _, _, _, ne, h1, _⟩ := rs i e he
    refine ⟨ne, h1, fun z => h1 ?_⟩
    exact nb_mem ne ((mem_nb z).symm)
  have rowN : ∀ i row, R[i]? = some row → row = nb M ((i : Nat) : Int) ∧ i < n := fun i row e => by
    have hi := (List.getElem?_eq_some_iff.mp e).1
    have := hr ((i : Nat) : Int) (by omega) (by omega)
    unfold rowOf at this
    rw [List.getD_eq_getElem?_getD] at this
    have e' : R[((i : Nat) : Int).toNat]? = some row := by simpa using e
    rw [e'] at this
    exact ⟨this, by omega⟩
  have rowP : ∀ i row', R'[i]? = some row' → row'.Perm (nb M ((i : Nat) : Int)) ∧ row'.Pairwise (· ≤ ·) ∧ i < n := fun i row' e => by
    obtain ⟨row, h1, h2, h3⟩ := paired_get p e
    obtain ⟨h4, h5⟩ := rowN i row h1
    exact ⟨by rw [← h4]; exact h2, h3, h5⟩
  refine lex_uniq (edges_lex R' 0 fun row' hr' => ?_) s fun e => ?_
  · obtain ⟨i, hi⟩ := List.getElem?_of_mem hr'
    obtain ⟨h1, h2, _⟩ := rowP i row' hi
    exact le_lt_of_nodup h2 (h1.nodup_iff.mpr (nb_nodup sym))
  · rw [mem_edges]
    obtain ⟨x, y⟩ := e
    constructor
    · rintro ⟨i, row', h1, h2, h3, h4⟩
      obtain ⟨h5, _, h6⟩ := rowP i row' h1
      have h2 : x = (i : Int) := by simpa using h2
      subst h2
      have h4 : (i : Int) < y := h4
      have h7 := mem_nb (h5.mem_iff.mp h3)
      have : ∃ f ∈ M, norm f = ((i : Int), y) := by
        rcases h7 with z | z
        · exact ⟨_, z, by unfold norm; simp only; rw [if_pos (by omega)]⟩
        · exact ⟨_, z, by unfold norm; simp only; rw [if_neg (by omega)]⟩
      obtain ⟨f, hf, e⟩ := this
      exact h.mem_iff.mp (List.mem_map.mpr ⟨f, hf, e⟩)
    · intro he
      obtain ⟨r0, r1, r2⟩ := g.rng _ he
      have r0 : 0 ≤ x := r0
      have r1 : x < y := r1
      have r2 : y < n := r2
      obtain ⟨f, hf, e⟩ := List.mem_map.mp (h.mem_iff.mpr he)
      have lenR : R'.length = R.length := paired_len p
      have hx : x.toNat < R'.length := by omega
      refine ⟨x.toNat, R'[x.toNat], List.getElem?_eq_getElem hx, by simp; omega, ?_, r1⟩
      obtain ⟨h5, _, _⟩ := rowP x.toNat _ (List.getElem?_eq_getElem hx)
      have ex : ((x.toNat : Nat) : Int) = x := by omega
      rw [ex] at h5
      refine h5.mem_iff.mpr (nb_mem (by show x ≠ y; omega) ?_)
      show (x, y) ∈ M ∨ (y, x) ∈ M
      obtain ⟨u, v⟩ := f
      unfold norm at e
      simp only at e
      split at e
      · cases e; exact .inl hf
      · cases e; exact .inr hf
end K71

namespace K71
open PySem PySem.Spec PyProof.Rows L2 KX
local macro_rules | `(tactic| walk_at "rd1") => `(tactic| first
  | with_reducible refine rd_seq ?_
  | with_reducible refine rd_asg ?_
  | ((with_reducible refine' rd_var ?rdv ?_); (case rdv => exact rfl))
  | with_reducible refine rd_c ?_
  | with_reducible refine rd_op ?_
  | with_reducible refine rd_un ?_
  | with_reducible refine rd_cons ?_
  | with_reducible refine rd_nil ?_
  | with_reducible refine rd_call ?_
  | with_reducible refine rd_cb ?_
  | with_reducible refine rd_tB ?_
  | with_reducible refine rd_test ?_
  | with_reducible refine rd_bl ?_
  | with_reducible refine rd_rI0 ?_
  | with_reducible refine rd_eqI ?_
  | with_reducible refine rd_neI ?_
  | with_reducible refine rd_rU ?_
  | with_reducible refine rd_name ?_
  | with_reducible refine rd_ifs ?_
  | with_reducible refine rd_and ?_
  | with_reducible refine rd_or ?_
  | with_reducible refine rd_not ?_
  | with_reducible refine rd_yes ?_
  | with_reducible refine rd_andV ?_
  | with_reducible refine rd_orV ?_
  | with_reducible refine rd_notV ?_
  | with_reducible refine rd_if ?_
  | with_reducible refine rd_isN ?_
  | with_reducible refine rd_iT ?_
  | with_reducible refine rd_iF ?_
  | with_reducible refine rd_ret ?_
  | with_reducible refine rd_retN ?_
  | with_reducible refine rd_drop ?_
  | with_reducible refine rd_next ?_
  | with_reducible refine rd_cont ?_
  | with_reducible refine rd_brk ?_
  | with_reducible refine rd_nx ?_
  | with_reducible refine rd_rt ?_
  | with_reducible refine rd_ct ?_
  | with_reducible refine rd_bk ?_
  | with_reducible refine rd_par ?_
  | with_reducible refine rd_par3 ?_
  | with_reducible refine rd_par2 ?_
  | with_reducible refine rd_par33 ?_
  | with_reducible refine rd_gcons ?_
  | with_reducible refine rd_gnil ?_
  | with_reducible refine rd_sub ?_
  | with_reducible refine rd_tup ?_
  | with_reducible refine rd_lst ?_
  | ((with_reducible refine rd_tupT ?hl ?_); (case hl => exact Nat.le_of_ble_eq_true rfl))
  | ((with_reducible refine rd_lstT ?hl ?_); (case hl => exact Nat.le_of_ble_eq_true rfl))
  | with_reducible refine rd_bm ?_
  | with_reducible refine rd_bm0 ?_
  | with_reducible refine rd_sl ?_
  | with_reducible refine rd_noP ?_
  | with_reducible refine rd_part ?_
  | with_reducible refine rd_int ?_
  | with_reducible refine rd_int1 ?_
  | with_reducible refine rd_fld ?_
  | with_reducible refine rd_then ?_
  | with_reducible refine rd_raise ?_
  | with_reducible refine rd_one ?_
  | with_reducible refine rd_sfld ?_
  | with_reducible refine rd_ilist ?_
  | with_reducible refine rd_itup ?_
  | with_reducible refine rd_rng1 ?_
  | with_reducible refine rd_enum ?_
  | with_reducible refine rd_enumT ?_)
local macro_rules | `(tactic| walk_at "rd") => `(tactic| repeat (walk_at "rd1"))
theorem Deal.new {H : Hp} {p q a : Addr} {o : HO} (d : Deal H p q) (n : H a = none) : Deal (upd H a o) p q ∧ a ≠ p ∧ a ≠ q := by
  obtain ⟨ns, b, d⟩ := d
  exact ⟨⟨ns, b, DealAt.new d n⟩, (fun z => by have h := d.hp; rw [← z, n] at h; cases h), (fun z => by have h := d.hq; rw [← z, n] at h; cases h)⟩
theorem Deal.off {H : Hp} {p q a : Addr} {o : HO} (d : Deal H p q) (h1 : a ≠ p) (h2 : a ≠ q) : Deal (upd H a o) p q := by
  obtain ⟨ns, b, d⟩ := d
  exact ⟨ns, b, by rw [upd_ne (Ne.symm h1)]; exact d.hp, by rw [upd_ne (Ne.symm h2)]; exact d.hq, d.ne, d.nn, d.len, d.b0, d.b1⟩
theorem Fix.upd {p q D : Addr} {H H' : Hp} {o : HO} (f : Fix p q H H') (n : H D = none) : Fix p q H (L2.upd H' D o) := fun c u h1 h2 h => by
  rw [upd_ne (fun z => by rw [z, n] at h; cases h)]
  exact f c u h1 h2 h
theorem Fix.keep {H H' : Hp} {p q a : Addr} {o : HO} (f : Fix p q H H') (d : Deal H p q) (h : H a = some o) (n : ∀ xs, o ≠ .lst xs) : H' a = some o := by
  obtain ⟨ns, b, d⟩ := d
  refine f a o (fun e => ?_) (fun e => ?_) h
  · rw [e, d.hp] at h; exact n _ (Option.some.inj h).symm
  · rw [e, d.hq] at h; exact n _ (Option.some.inj h).symm
theorem Fix.free {H H' : Hp} {p q a : Addr} (f : Fix p q H H') (d : Deal H' p q) (h : H' a = none) : H a = none := by
  cases e : H a with
  | none => rfl
  | some o =>
    obtain ⟨ns, b, d⟩ := d
    by_cases h1 : a = p
    · rw [h1, d.hp] at h; cases h
    · by_cases h2 : a = q
      · rw [h2, d.hq] at h; cases h
      · rw [f a o h1 h2 e] at h; cases h
theorem map_erase {α β : Type} (f : α → β) : ∀ (l : List α) (i : Nat), (l.map f).eraseIdx i = (l.eraseIdx i).map f
  | [], _ => rfl
  | x :: l, 0 => rfl
  | x :: l, i + 1 => by
    show f x :: (l.map f).eraseIdx i = f x :: (l.eraseIdx i).map f
    rw [map_erase f l i]
theorem erase_perm {α : Type} : ∀ (l : List α) (i : Nat) (h : i < l.length), (l[i] :: l.eraseIdx i).Perm l
  | x :: l, 0, _ => List.Perm.refl _
  | x :: l, i + 1, h => by
    have h' : i < l.length := by simpa using h
    show (l[i] :: x :: l.eraseIdx i).Perm (x :: l)
    exact (List.Perm.swap x l[i] (l.eraseIdx i)).trans ((erase_perm l i h').cons x)
theorem seqIx {i : Int} {n : Nat} (h0 : 0 ≤ i) (h1 : i < n) : seqIndex? i n = some i.toNat := by
  have h : ixN n i = some i.toNat := by
    unfold ixN
    rw [if_pos h0]
    first
      | (rw [if_pos (by omega)])
      | (split <;> first | rfl | omega)
  exact (ixN_seq h).1
theorem Deal.nes {H : Hp} {p q a : Addr} (d : Deal H p q) (n : H a = none) : a ≠ p ∧ a ≠ q := by
  obtain ⟨ns, b, d⟩ := d
  exact ⟨(fun z => by have h := d.hp; rw [← z, n] at h; cases h), (fun z => by have h := d.hq; rw [← z, n] at h; cases h)⟩
/-! ### sorted pairs -/
def pairO : Option HO → Int × Int
  | some (.tup [.int a, .int b]) => (a, b)
  | _ => (0, 0)
def keyOf (H : Hp) : V → Int × Int
  | .ref t => pairO (H t)
  | _ => (0, 0)
theorem keyOf_at {H : Hp} {t : Addr} {e : Int × Int} (h : PairAt H t e) : keyOf H (.ref t) = e := by
  show pairO (H t) = e
  have h : H t = _ := h
  rw [h]; rfl
def addrOf : V → Addr
  | .ref t => t
  | _ => 0
theorem rd_sortedP {K : PySem.W.Frag} {H : Hp} {Q : VK} {a : Addr} {ps : List Addr} {L : List (Int × Int)} (ha : H a = some (.lst (ps.map V.ref))) (hp : Paired (PairAt H) ps L) (nd : L.Nodup)
    (h : ∀ (qs : List Addr) (L' : List (Int × Int)), L'.Perm L → L'.Pairwise lexlt → Paired (PairAt H) qs L' → NewO H (.lst (qs.map V.ref)) Q) : rSortedPO K [.ref a] H Q := by
  have mem : ∀ x ∈ ps.map V.ref, ∃ t, x = V.ref t ∧ PairAt H t (keyOf H x) := fun x hx => by
    obtain ⟨t, ht, rfl⟩ := List.mem_map.mp hx
    obtain ⟨i, hi⟩ := List.getElem?_of_mem ht
    obtain ⟨e, _, he⟩ := paired_get hp hi
    exact ⟨t, rfl, by rw [keyOf_at he]; exact he⟩
  have keys : (ps.map V.ref).map (keyOf H) = L := by
    clear ha h nd mem
    induction hp with
    | nil => rfl
    | cons x _ ih => rw [List.map_cons, List.map_cons, ih, keyOf_at x]
  refine ⟨a, _, keyOf H, rfl, SqL.of ha, fun x hx => mem x hx, fun ys p srt stb hpn => ?_⟩
  have my : ∀ y ∈ ys, ∃ t, y = V.ref t ∧ PairAt H t (keyOf H y) := fun y hy => mem y (stb.perm.mem_iff.mp hy)
  have ey : (ys.map addrOf).map V.ref = ys := by
    clear stb srt
    induction ys with
    | nil => rfl
    | cons y ys ih =>
      obtain ⟨t, rfl, _⟩ := my y List.mem_cons_self
      rw [List.map_cons, List.map_cons, ih fun z hz => my z (List.mem_cons_of_mem _ hz)]
      rfl
  have py : Paired (PairAt H) (ys.map addrOf) (ys.map (keyOf H)) := by
    clear stb srt ey
    induction ys with
    | nil => exact .nil
    | cons y ys ih =>
      obtain ⟨t, rfl, ht⟩ := my y List.mem_cons_self
      exact .cons ht (ih fun z hz => my z (List.mem_cons_of_mem _ hz))
  have pm : (ys.map (keyOf H)).Perm L := by rw [← keys]; exact stb.perm.map _
  have lx : (ys.map (keyOf H)).Pairwise lexlt := by
    have ndy : (ys.map (keyOf H)).Pairwise (· ≠ ·) := pm.nodup_iff.mpr nd
    have s1 : (ys.map (keyOf H)).Pairwise fun e f => SrtO.lexB f e = false := List.pairwise_map.mpr srt
    exact (s1.and ndy).imp fun {e f} ⟨h1, h2⟩ => by
      have h3 := SrtO.lexB_no.mp h1
      obtain ⟨e1, e2⟩ := e
      obtain ⟨f1, f2⟩ := f
      have h4 : ¬ (e1 = f1 ∧ e2 = f2) := fun ⟨a, b⟩ => h2 (by rw [a, b])
      unfold lexlt
      simp only at h3 ⊢
      omega
  have := new_of (h (ys.map addrOf) (ys.map (keyOf H)) pm lx py) p hpn
  rw [ey] at this
  exact this
/-! ### what _law_links tells, by its form -/
def stepsOf (f n : Int) : List Int := if f = 0 then [1] else if f = 1 then [1] else if f = 2 then [1, 2] else if f = 3 then [1, n / 2] else []
def pairOf (a b : Int) : Int × Int := (if b < a then b else a, if b > a then b else a)
def stepC (n one : Int) (L : List (Int × Int)) (step : Int) : List (Int × Int) :=
  if one = (one + step) % n then L else if pairOf one ((one + step) % n) ∈ L then L else L ++ [pairOf one ((one + step) % n)]
def circ (n : Int) (steps : List Int) (i : Nat) : List (Int × Int) := (List.range i).foldl (fun L one => steps.foldl (stepC n (one : Nat)) L) []
def goodB (n d : Nat) (L : List (Int × Int)) : Bool :=
  L.all (fun e => decide (0 ≤ e.1) && (decide (e.1 < e.2) && decide (e.2 < (n : Int)))) && (decide L.Nodup && (List.range n).all fun s => decide ((L.filter (inc (s : Int))).length ≤ d))
theorem goodB_ok {n d : Nat} {L : List (Int × Int)} (h : goodB n d L = true) : Good n d L := by
  unfold goodB at h
  rw [Bool.and_eq_true, Bool.and_eq_true] at h
  obtain ⟨h1, h2, h3⟩ := h
  have rng : ∀ e ∈ L, 0 ≤ e.1 ∧ e.1 < e.2 ∧ e.2 < n := fun e he => by
    have := List.all_eq_true.mp h1 e he
    simpa using this
  refine ⟨rng, of_decide_eq_true h2, fun s => ?_⟩
  by_cases hs : 0 ≤ s ∧ s < n
  · have := List.all_eq_true.mp h3 s.toNat (List.mem_range.mpr (by omega))
    have e : ((s.toNat : Nat) : Int) = s := by omega
    rw [e] at this
    exact of_decide_eq_true this
  · have : L.filter (inc s) = [] := List.filter_eq_nil_iff.mpr fun e he => by
      obtain ⟨a, b, c⟩ := rng e he
      unfold inc
      simp
      omega
    rw [this]; exact Nat.zero_le _
theorem circ_good : ∀ n : Nat, 1 ≤ n → n < 10 → ∀ f : Nat, f < 4 → goodB n 4 (circ n (stepsOf f n) n) = true := by
  have h : ((List.range 10).all fun n => (List.range 4).all fun f => n == 0 || goodB n 4 (circ n (stepsOf f n) n)) = true := by decide +kernel
  intro n h1 h2 f hf
  have a := List.all_eq_true.mp h n (List.mem_range.mpr h2)
  have b := List.all_eq_true.mp a f (List.mem_range.mpr hf)
  have z : (n == 0) = false := by simp; omega
  rw [z, Bool.false_or] at b
  exact b
end K71

namespace K71
open PySem PySem.Spec PyProof.Rows L2 KX
theorem rd_for {wi : TI} {g : TG} {tb : TS} {D : Ends} {σ : L2.St} {H : Hp} (h : wi σ H fun J H1 => ∃ W : Nat → Nat → L2.St → Hp → Prop, (∃ m, W 0 m σ H1) ∧ ∀ i m σ H, W i m σ H →
    (J.stop i H ∧ D.nx σ H) ∨ (J.go i H ∧ ∃ N : L2.St → Hp → Prop, (∀ σ' H', N σ' H' → ∃ m', m' < m ∧ W (i + 1) m' σ' H') ∧ ∀ x H', J.yld i H x H' → g x σ H' fun σ2 H2 => tb { D with nx := N, ct := N, bk := D.nx } σ2 H2)) : tFor wi g tb D σ H := h
theorem rd_lc {wi : TI} {g : TG} {tt : TT} {te : TE} {vs : List Nat} {σ : L2.St} {H : Hp} {Q : VK} (h : wi σ H fun J H1 => ∀ D, H1 D = none → ∃ W : Nat → Nat → Hp → Prop, (∃ m, W 0 m (upd H1 D (.lst []))) ∧ ∀ i m H, W i m H →
    (J.stop i H ∧ Q (.ref D) H) ∨ (J.go i H ∧ ∃ Nx : Hp → Prop, (∀ H', Nx H' → ∃ m', m' < m ∧ W (i + 1) m' H') ∧ ∀ x H', J.yld i H x H' → g x (wipe σ vs) H' fun σ2 H2 => wipe σ2 vs = wipe σ vs ∧ tt σ2 H2 fun b H3 =>
      if b = true then te σ2 H3 fun y H4 => ∃ acc, H4 D = some (.lst acc) ∧ acc.length < sizeLine ∧ Nx (upd H4 D (.lst (acc ++ [y]))) else Nx H3)) : tLc wi g tt te vs σ H Q := h
local macro_rules | `(tactic| walk_at "rd1") => `(tactic| first
  | with_reducible refine rd_seq ?_
  | with_reducible refine rd_for ?_
  | with_reducible refine rd_lc ?_
  | with_reducible refine rd_asg ?_
  | ((with_reducible refine' rd_var ?rdv ?_); (case rdv => exact rfl))
  | with_reducible refine rd_c ?_
  | with_reducible refine rd_op ?_
  | with_reducible refine rd_un ?_
  | with_reducible refine rd_cons ?_
  | with_reducible refine rd_nil ?_
  | with_reducible refine rd_call ?_
  | with_reducible refine rd_cb ?_
  | with_reducible refine rd_tB ?_
  | with_reducible refine rd_test ?_
  | with_reducible refine rd_bl ?_
  | with_reducible refine rd_rI0 ?_
  | with_reducible refine rd_eqI ?_
  | with_reducible refine rd_neI ?_
  | with_reducible refine rd_rU ?_
  | with_reducible refine rd_name ?_
  | with_reducible refine rd_ifs ?_
  | with_reducible refine rd_and ?_
  | with_reducible refine rd_or ?_
  | with_reducible refine rd_not ?_
  | with_reducible refine rd_yes ?_
  | with_reducible refine rd_andV ?_
  | with_reducible refine rd_orV ?_
  | with_reducible refine rd_notV ?_
  | with_reducible refine rd_if ?_
  | with_reducible refine rd_isN ?_
  | with_reducible refine rd_iT ?_
  | with_reducible refine rd_iF ?_
  | with_reducible refine rd_ret ?_
  | with_reducible refine rd_retN ?_
  | with_reducible refine rd_drop ?_
  | with_reducible refine rd_next ?_
  | with_reducible refine rd_cont ?_
  | with_reducible refine rd_brk ?_
  | with_reducible refine rd_nx ?_
  | with_reducible refine rd_rt ?_
  | with_reducible refine rd_ct ?_
  | with_reducible refine rd_bk ?_
  | with_reducible refine rd_par ?_
  | with_reducible refine rd_par3 ?_
  | with_reducible refine rd_par2 ?_
  | with_reducible refine rd_par33 ?_
  | with_reducible refine rd_gcons ?_
  | with_reducible refine rd_gnil ?_
  | with_reducible refine rd_sub ?_
  | with_reducible refine rd_tup ?_
  | with_reducible refine rd_lst ?_
  | ((with_reducible refine rd_tupT ?hl ?_); (case hl => exact Nat.le_of_ble_eq_true rfl))
  | ((with_reducible refine rd_lstT ?hl ?_); (case hl => exact Nat.le_of_ble_eq_true rfl))
  | with_reducible refine rd_bm ?_
  | with_reducible refine rd_bm0 ?_
  | with_reducible refine rd_sl ?_
  | with_reducible refine rd_noP ?_
  | with_reducible refine rd_part ?_
  | with_reducible refine rd_int ?_
  | with_reducible refine rd_int1 ?_
  | with_reducible refine rd_fld ?_
  | with_reducible refine rd_then ?_
  | with_reducible refine rd_raise ?_
  | with_reducible refine rd_one ?_
  | with_reducible refine rd_sfld ?_
  | with_reducible refine rd_ilist ?_
  | with_reducible refine rd_itup ?_
  | with_reducible refine rd_rng1 ?_
  | with_reducible refine rd_enum ?_
  | with_reducible refine rd_enumT ?_)
local macro_rules | `(tactic| walk_at "rd") => `(tactic| repeat (walk_at "rd1"))
/-- the list of links under way -/
def LkInv (p q l : Addr) (H H' : Hp) (L : List (Int × Int)) : Prop := Deal H' p q ∧ Fix p q H H' ∧ ∃ ps : List Addr, H' l = some (.lst (ps.map V.ref)) ∧ Paired (PairAt H') ps L
theorem pairs_same {H H' : Hp} {ps : List Addr} {L : List (Int × Int)} (h : Paired (PairAt H) ps L) (s : Same H H') : Paired (PairAt H') ps L := paired_mono h fun _ _ z => s _ _ z
theorem pairs_upd {H : Hp} {l : Addr} {xs ys : List V} {ps : List Addr} {L : List (Int × Int)} (h : Paired (PairAt H) ps L) (hl : H l = some (.lst xs)) : Paired (PairAt (upd H l (.lst ys))) ps L :=
  paired_mono h fun a b z => by
    have z : H a = some _ := z
    show upd H l _ a = some _
    rw [upd_ne (fun e => by rw [e, hl] at z; cases z)]
    exact z
theorem pairs_snoc {H : Hp} {t : Addr} {e : Int × Int} : ∀ {ps : List Addr} {L : List (Int × Int)}, Paired (PairAt H) ps L → PairAt H t e → Paired (PairAt H) (ps ++ [t]) (L ++ [e]) := fun h a => by
  induction h with
  | nil => exact .cons a .nil
  | cons x _ ih => exact .cons x ih
theorem LkInv.same {p q l : Addr} {H H1 H2 : Hp} {L : List (Int × Int)} (h : LkInv p q l H H1 L) (s : Same H1 H2) : LkInv p q l H H2 L := by
  obtain ⟨d, f, ps, h1, h2⟩ := h
  exact ⟨d.same s, f.trans (Fix.same s), ps, s _ _ h1, pairs_same h2 s⟩
theorem LkInv.fix {p q l : Addr} {H H1 H2 : Hp} {L : List (Int × Int)} (h : LkInv p q l H H1 L) (lp : l ≠ p) (lq : l ≠ q) (d : Deal H2 p q) (s : Fix p q H1 H2) : LkInv p q l H H2 L := by
  obtain ⟨d1, f, ps, h1, h2⟩ := h
  exact ⟨d, f.trans s, ps, s _ _ lp lq h1, paired_mono h2 fun a b z => Fix.keep s d1 z (fun _ e => by cases e)⟩
theorem LkInv.app {p q l t : Addr} {H H1 : Hp} {L : List (Int × Int)} {e : Int × Int} (h : LkInv p q l H H1 L) (lp : l ≠ p) (lq : l ≠ q) (l0 : H l = none) (ht : PairAt H1 t e) :
    ∃ xs, H1 l = some (.lst xs) ∧ xs.length = L.length ∧ LkInv p q l H (upd H1 l (.lst (xs ++ [.ref t]))) (L ++ [e]) := by
  obtain ⟨d, f, ps, h1, h2⟩ := h
  refine ⟨_, h1, by rw [List.length_map, paired_len h2], d.off lp lq, f.upd l0, ps ++ [t], by rw [upd_same]; simp, ?_⟩
  exact pairs_upd (pairs_snoc h2 ht) h1
theorem rd_notInP {K : PySem.W.Frag} {H : Hp} {t l : Addr} {e : Int × Int} {ps : List Addr} {L : List (Int × Int)} {Q : VK} (ht : PairAt H t e) (hl : H l = some (.lst (ps.map V.ref))) (hp : Paired (PairAt H) ps L)
    (h : Q (.bl (!decide (e ∈ L))) H) : rNotInD K (.ref t) (.ref l) H Q :=
  ⟨dP e, L.map dP, dp_pair ht, .lst (SqL.of hl) (dp_pairs hp), dP_sh1 e, dP_shL L, by rw [dP_any]; exact h⟩
theorem stepC_len (n one : Int) (L : List (Int × Int)) (s : Int) : (stepC n one L s).length ≤ L.length + 1 := by
  unfold stepC
  split
  · omega
  · split
    · omega
    · simp
theorem fold_snoc {α β : Type} (f : α → β → α) (a : α) (l : List β) (i : Nat) (x : β) (h : l[i]? = some x) : (l.take (i + 1)).foldl f a = f ((l.take i).foldl f a) x := by
  rw [List.take_succ, h]
  simp [List.foldl_append]
theorem circ_succ (n : Int) (steps : List Int) (i : Nat) : circ n steps (i + 1) = steps.foldl (stepC n (i : Nat)) (circ n steps i) := by
  unfold circ
  rw [List.range_succ, List.foldl_append]
  rfl
theorem circ_nil (n : Int) : ∀ i, circ n [] i = []
  | 0 => rfl
  | i + 1 => by rw [circ_succ, circ_nil n i]; rfl
theorem fold_len (n one : Int) : ∀ (steps : List Int) (L : List (Int × Int)), (steps.foldl (stepC n one) L).length ≤ L.length + steps.length
  | [], L => Nat.le_refl _
  | s :: ss, L => by
    have h1 := fold_len n one ss (stepC n one L s)
    have h2 := stepC_len n one L s
    simp only [List.foldl_cons, List.length_cons]
    omega
theorem circ_len (n : Int) (steps : List Int) (hs : steps.length ≤ 2) : ∀ i, (circ n steps i).length ≤ 2 * i
  | 0 => Nat.le_refl _
  | i + 1 => by
    rw [circ_succ]
    have h1 := circ_len n steps hs i
    have h2 := fold_len n (i : Nat) steps (circ n steps i)
    omega
theorem steps_len (f n : Int) : (stepsOf f n).length ≤ 2 := by
  unfold stepsOf
  split
  · decide
  · split
    · decide
    · split
      · decide
      · split
        · simp
        · decide
theorem inc_in (s : Int) (e : Int × Int) : decide (s ∈ [e.1, e.2]) = inc s e := by
  unfold inc
  by_cases h1 : e.1 = s
  · simp [h1]
  · by_cases h2 : e.2 = s
    · simp [h2]
    · have h1' : ¬ s = e.1 := fun z => h1 z.symm
      have h2' : ¬ s = e.2 := fun z => h2 z.symm
      simp [h1, h2, h1', h2']
/-- links drawn one by one: the greater site first, then the lesser one -/
structure Bf (o i : Nat) (L : List (Int × Int)) : Prop where
  rng : ∀ e ∈ L, 0 ≤ e.1 ∧ e.1 < e.2 ∧ (e.2 < o ∨ e.2 = o ∧ e.1 < i)
  nd : L.Nodup
  deg : ∀ s : Int, (L.filter (inc s)).length ≤ 4
  len : L.length ≤ 10 * o + i
theorem Bf.skip {o i : Nat} {L : List (Int × Int)} (h : Bf o i L) : Bf o (i + 1) L :=
  ⟨fun e he => by have := h.rng e he; omega, h.nd, h.deg, by have := h.len; omega⟩
theorem Bf.next {o : Nat} {L : List (Int × Int)} (h : Bf o o L) (ho : o < 10) : Bf (o + 1) 0 L :=
  ⟨fun e he => by have := h.rng e he; omega, h.nd, h.deg, by have := h.len; omega⟩
theorem Bf.app {o i : Nat} {L : List (Int × Int)} (h : Bf o i L) (hi : i < o) (d1 : (L.filter (inc (i : Nat))).length < 4) (d2 : (L.filter (inc (o : Nat))).length < 4) : Bf o (i + 1) (L ++ [(((i : Nat) : Int), ((o : Nat) : Int))]) := by
  refine ⟨fun e he => ?_, ?_, fun s => ?_, by have := h.len; simp; omega⟩
  · rcases List.mem_append.mp he with z | z
    · have := h.rng e z; omega
    · rw [List.mem_singleton.mp z]
      show (0 : Int) ≤ (i : Nat) ∧ ((i : Nat) : Int) < (o : Nat) ∧ _
      omega
  · refine List.nodup_append.mpr ⟨h.nd, by simp, fun a ha b hb => ?_⟩
    rw [List.mem_singleton.mp hb]
    intro z
    have := h.rng a ha
    rw [z] at this
    simp at this
  · rw [List.filter_append, List.length_append]
    have h1 := h.deg s
    by_cases c1 : ((i : Nat) : Int) = s
    · rw [← c1]
      have : ([(((i : Nat) : Int), ((o : Nat) : Int))].filter (inc ((i : Nat) : Int))).length ≤ 1 := List.length_filter_le _ _
      omega
    · by_cases c2 : ((o : Nat) : Int) = s
      · rw [← c2]
        have : ([(((i : Nat) : Int), ((o : Nat) : Int))].filter (inc ((o : Nat) : Int))).length ≤ 1 := List.length_filter_le _ _
        omega
      · have : [(((i : Nat) : Int), ((o : Nat) : Int))].filter (inc s) = [] := by
          simp [inc, c1, c2]
        rw [this]; simpa using h1
theorem Bf.good {n : Nat} {L : List (Int × Int)} (h : Bf n 0 L) : Good n 4 L :=
  ⟨fun e he => by have := h.rng e he; omega, h.nd, h.deg⟩
theorem Good.perm {n d : Nat} {L M : List (Int × Int)} (h : Good n d L) (p : M.Perm L) : Good n d M :=
  ⟨fun e he => h.rng e (p.mem_iff.mp he), p.nodup_iff.mpr h.nd, fun s => by rw [perm_filter_len p (inc s)]; exact h.deg s⟩
def spLk : Sp := fun vs H Q _ => ∃ (p q : Addr) (n : Nat), vs = [.ref p, .int (n : Nat)] ∧ Deal H p q ∧ 1 ≤ n ∧ n < 10 ∧
  ∀ (H' : Hp) (l : Addr) (ps : List Addr) (L : List (Int × Int)), Deal H' p q → Fix p q H H' → H l = none → l ≠ p → l ≠ q → H' l = some (.lst (ps.map V.ref)) → Paired (PairAt H') ps L → Good n 4 L → L.Pairwise lexlt → Q (.ref l) H'
section
variable {P : Program} {w : World} {K : PySem.W.Frag} {mg : Str → Option Value} {base : Heap} (T : TX K mg)
theorem G__law_links : FnOk P w K mg base CX0 2 T.f__law_links T.d__law_links ["_law_deal", "_law_many"] spLk := by
  refine T.F__law_links.ok sc__law_links (fun vs H Q E h => ?_) fun cdv A outer s H vs Q E hr h => ⟨_, (pss_cons (ps_asg (pe_tup (pa_cons (pe_call (G__law_any T) (hr.mono (by decide)) (by rfl) T.m__law_any T.F__law_any.kp T.b__law_any .nil pass0 (by exact (pa_cons (pv 0) (pa_cons pe_int pa_nil)))) (pa_cons (pe_lst pa_nil) (pa_cons (pe_op op_add pe_int (pe_call (G__law_any T) (hr.mono (by decide)) (by rfl) T.m__law_any T.F__law_any.kp T.b__law_any .nil pass0 (by exact (pa_cons (pv 0) (pa_cons pe_int pa_nil))))) pa_nil)))) (pg_tupK (K := K) (n := 3) (by rfl) (pgs_cons (pg_name (i := 2) sc__law_links.nd rfl (.inl rfl)) (pgs_cons (pg_name (i := 3) sc__law_links.nd rfl (.inr rfl)) (pgs_cons (pg_name (i := 4) sc__law_links.nd rfl (.inl rfl)) pgs_nil))))) (pss_cons (ps_set (i := 5) sc__law_links.nd rfl (.inl rfl) (pe_ix (ix_listK (K := K)) (pe_lst (pa_cons (pe_lst (pa_cons pe_int pa_nil)) (pa_cons (pe_lst (pa_cons pe_int pa_nil)) (pa_cons (pe_lst (pa_cons pe_int (pa_cons pe_int pa_nil))) (pa_cons (pe_lst (pa_cons pe_int (pa_cons (pe_op op_fdiv (pv 1) pe_int) pa_nil))) (pa_cons (pe_lst pa_nil) (pa_cons (pe_lst pa_nil) pa_nil))))))) (pv 2) (fun _ _ => rfl))) (pss_cons (ps_for PassesOwn.never rfl (pi_range1 (by rfl) T.n_range (by exact (pa_cons (pv 1) pa_nil))) (pg_name (i := 6) sc__law_links.nd rfl (.inl rfl)) (pss_one (ps_for PassesOwn.never rfl (pi_listK (K := K) (pv 5)) (pg_name (i := 7) sc__law_links.nd rfl (.inl rfl)) (pss_cons (ps_set (i := 8) sc__law_links.nd rfl (.inl rfl) (pe_op op_mod (pe_callTy call_int1 (by rfl) T.n_int (by decide +kernel) (by exact (pa_cons (pe_op op_add (pv 6) (pv 7)) pa_nil))) (pv 1))) (pss_one (ps_if (PW.pt (pw_and (pt_cmpR op_ne (pv 6) (pv 8) (nomark _)) (pw_and1 (pt_cmpR (op_notInDK (K := K) (KX.Room.u65 hr)) (pe_tup (pa_cons (pe_callB (call_min2 rfl) (by rfl) T.n_min (by decide +kernel) (by exact (pa_cons (pv 6) (pa_cons (pv 8) pa_nil)))) (pa_cons (pe_callB (call_max2 rfl) (by rfl) T.n_max (by decide +kernel) (by exact (pa_cons (pv 6) (pa_cons (pv 8) pa_nil)))) pa_nil))) (pv 3) (by rfl))))) (pss_one (ps_expr (pe_bmK (K := K) PySem.F.slot_list_append PySem.F.type_list_append mt_append (pv 3) (by exact (pa_cons (pe_tup (pa_cons (pe_callB (call_min2 rfl) (by rfl) T.n_min (by decide +kernel) (by exact (pa_cons (pv 6) (pa_cons (pv 8) pa_nil)))) (pa_cons (pe_callB (call_max2 rfl) (by rfl) T.n_max (by decide +kernel) (by exact (pa_cons (pv 6) (pa_cons (pv 8) pa_nil)))) pa_nil))) pa_nil))))) pss_nil)))))) (pss_cons (ps_if (pt_cmpR op_gt (pv 2) pe_int (nomark _)) (pss_one (ps_for PassesOwn.never rfl (pi_range1 (by rfl) T.n_range (by exact (pa_cons (pv 1) pa_nil))) (pg_name (i := 8) sc__law_links.nd rfl (.inl rfl)) (pss_one (ps_for PassesOwn.never rfl (pi_range1 (by rfl) T.n_range (by exact (pa_cons (pv 8) pa_nil))) (pg_name (i := 6) sc__law_links.nd rfl (.inl rfl)) (pss_cons (ps_setLc (i := 9) (own := [("_law_site", 10)]) (by rfl) sc__law_links.nd rfl rfl (sw_true rfl rfl rfl (by decide +kernel)) (pi_tupK (K := K) (pe_tup (pa_cons (pv 6) (pa_cons (pv 8) pa_nil)))) (blkOk_by (own := [("_law_site", 10)]) (N := N__law_links) (sc := defScope s__law_links) (by decide +kernel)) (fun _ _ _ _ _ => (pg_name (i := 10) sc__law_links.nd rfl (.inr rfl))) (fun _ _ _ _ _ => pts_nil) (fun _ _ _ _ _ => (pe_callB (cr_lenK (K := K)) (by rfl) T.n_len (by decide +kernel) (by exact (pa_cons (by exact (pe_lc (own := [("_law_link", 11)]) (by rfl) sc__law_links.nd (pi_listK (K := K) (pv 3)) (blkOk_by (own := [("_law_link", 11)]) (N := N__law_links) (sc := ({ kind := PySem.ScopeKind.function, names := [(PySem.Str.ofString ".0", PySem.NameKind.local), (PySem.Str.ofString "_law_site", PySem.NameKind.cell), (PySem.Str.ofString "len", PySem.NameKind.globalImplicit), (PySem.Str.ofString "_law_links_here", PySem.NameKind.cell)], isGenerator := false, isCoroutine := false, more := [] } : PySem.Scope)) (by decide +kernel)) (fun _ _ _ _ _ => (pg_name (i := 11) sc__law_links.nd rfl (.inl rfl))) (fun _ _ _ _ _ => pts_one (pt_cmpR (op_inK (K := K)) (pv 10) (pv 11) (by rfl))) (fun _ _ _ _ _ => (pv 11)) )) pa_nil)))) ) (pss_one (ps_if (PW.pt (pw_and (pt_cmpR op_lt (pe_callB (cr_maxK (K := K) rfl) (by rfl) T.n_max (by decide +kernel) (by exact (pa_cons (pv 9) pa_nil))) (pv 4) (nomark _)) (pw_and1 (pt_cmpR op_gt (pe_call (G__law_any T) (hr.mono (by decide)) (by rfl) T.m__law_any T.F__law_any.kp T.b__law_any .nil pass0 (by exact (pa_cons (pv 0) (pa_cons pe_int pa_nil)))) pe_int (nomark _))))) (pss_one (ps_expr (pe_bmK (K := K) PySem.F.slot_list_append PySem.F.type_list_append mt_append (pv 3) (by exact (pa_cons (pe_tup (pa_cons (pv 6) (pa_cons (pv 8) pa_nil))) pa_nil))))) pss_nil))))))) pss_nil) (pss_one (ps_ret (pe_callB (cr_sortedPOK (K := K)) (by rfl) T.n_sorted (by decide +kernel) (by exact (pa_cons (pv 3) pa_nil))))))))), ?_⟩
  · obtain ⟨p, q, n, rfl, _⟩ := h
    rfl
  · obtain ⟨p, q, n, rfl, d, n1, n10, hQ⟩ := h
    walk_at "rd"
    refine ⟨p, q, 6, rfl, d, by decide, by decide, fun H1 f d1 f1 f0 f6 => ?_⟩
    walk_at "rd"
    intro l H2 l0 S2 hl
    have d2 := d1.same S2
    obtain ⟨lp, lq⟩ := d1.nes l0
    have l00 := f1.free d1 l0
    walk_at "rd"
    refine ⟨p, q, 4, rfl, d2, by decide, by decide, fun H3 m d3 f3 m0 m4 => ?_⟩
    have hl3 := f3 _ _ lp lq hl
    have F3 : Fix p q H H3 := f1.trans ((Fix.same S2).trans f3)
    walk_at "rd"
    intro t H4 t0 S4 ht
    refine rd_gtup (Tup.of ht) rfl ?_
    walk_at "rd"
    intro a0 H5 n5 S5 e0
    walk_at "rd"
    intro a1 H6 n6 S6 e1
    walk_at "rd"
    intro a2 H7 n7 S7 e2
    walk_at "rd"
    refine rd_rI ⟨by decide, by decide⟩ ?_
    walk_at "rd"
    intro a3 H8 n8 S8 e3
    walk_at "rd"
    intro a4 H9 n9 S9 e4
    walk_at "rd"
    intro a5 H10 n10' S10 e5
    walk_at "rd"
    intro a6 H11 n11 S11 e6
    have S411 := ((((((S4.trans S5).trans S6).trans S7).trans S8).trans S9).trans S10).trans S11
    have hl11 := S411 _ _ hl3
    obtain ⟨as, hst, has, asl⟩ : ∃ as, atI [V.ref a0, V.ref a1, V.ref a2, V.ref a3, V.ref a4, V.ref a5] f = some (.ref as) ∧ H11 as = some (.lst ((stepsOf f n).map V.int)) ∧ as ≠ l := by
      have hf : f = 0 ∨ f = 1 ∨ f = 2 ∨ f = 3 ∨ f = 4 ∨ f = 5 := by omega
      have h4 := S4 _ _ hl3
      have h5 := S5 _ _ h4
      have h6 := S6 _ _ h5
      have h7 := S7 _ _ h6
      have h8 := S8 _ _ h7
      have h9 := S9 _ _ h8
      rcases hf with rfl | rfl | rfl | rfl | rfl | rfl
      · exact ⟨a0, rfl, (((((S6.trans S7).trans S8).trans S9).trans S10).trans S11) _ _ e0, fun z => by rw [z, h4] at n5; cases n5⟩
      · exact ⟨a1, rfl, ((((S7.trans S8).trans S9).trans S10).trans S11) _ _ e1, fun z => by rw [z, h5] at n6; cases n6⟩
      · exact ⟨a2, rfl, (((S8.trans S9).trans S10).trans S11) _ _ e2, fun z => by rw [z, h6] at n7; cases n7⟩
      · exact ⟨a3, rfl, ((S9.trans S10).trans S11) _ _ e3, fun z => by rw [z, h7] at n8; cases n8⟩
      · exact ⟨a4, rfl, (S10.trans S11) _ _ e4, fun z => by rw [z, h8] at n9; cases n9⟩
      · exact ⟨a5, rfl, S11 _ _ e5, fun z => by rw [z, h9] at n10'; cases n10'⟩
    walk_at "rd"
    refine rd_ixL e6 hst ?_
    walk_at "rd"
    have I0 : LkInv p q l H H11 [] := ⟨d3.same S411, F3.trans (Fix.same S411), [], hl11, .nil⟩
    generalize hsp : stepsOf f n = sp at has
    have spl : sp.length ≤ 2 := by rw [← hsp]; exact steps_len f n
    refine ⟨by omega, by omega, ?_⟩
    refine for_range (lo := 0) (n := n) (fun i σ H' => (∃ o6 o7 o8 o9 o10 o11, σ = [some (.ref p), some (.int (n : Nat)), some (.int f), some (.ref l), some (.int (1 + m)), some (.ref as), o6, o7, o8, o9, o10, o11]) ∧
      LkInv p q l H H' (circ n sp i) ∧ H' as = some (.lst (sp.map V.int))) ⟨⟨_, _, _, _, _, _, rfl⟩, I0, has⟩ (fun i σ H' hi pv => ?_) (fun σ H' pv => ?_)
    · obtain ⟨⟨o6, o7, o8, o9, o10, o11, rfl⟩, I, ha⟩ := pv
      walk_at "rd"
      refine ⟨as, rfl, ⟨_, SqL.of ha⟩, ?_⟩
      refine for_list (xs := sp.map V.int) (fun j σ H' => (∃ o7 o8 o9 o10 o11, σ = [some (.ref p), some (.int (n : Nat)), some (.int f), some (.ref l), some (.int (1 + m)), some (.ref as), some (.int (0 + (i : Nat))), o7, o8, o9, o10, o11]) ∧
        LkInv p q l H H' ((sp.take j).foldl (stepC n (i : Nat)) (circ n sp i)) ∧ H' as = some (.lst (sp.map V.int))) ⟨⟨_, _, _, _, _, rfl⟩, I, ha⟩ (fun j σ H' _ pv => SqL.of pv.2.2) (fun j x σ H' hx pv => ?_) (fun σ H' pv => ?_)
      · obtain ⟨⟨o7, o8, o9, o10, o11, rfl⟩, I, ha⟩ := pv
        rw [List.getElem?_map] at hx
        obtain ⟨st, hs, rfl⟩ := Option.map_eq_some_iff.mp hx
        rw [fold_snoc _ _ _ _ _ hs]
        have lL : ((sp.take j).foldl (stepC n (i : Nat)) (circ n sp i)).length ≤ 100 := by
          have h1 := fold_len n (i : Nat) (sp.take j) (circ n sp i)
          have h2 := circ_len n sp spl i
          have h3 : (sp.take j).length ≤ sp.length := by rw [List.length_take]; omega
          omega
        generalize (sp.take j).foldl (stepC n (i : Nat)) (circ n sp i) = L at I lL
        walk_at "rd"
        refine .inl ⟨_, rfl, ?_⟩
        walk_at "rd"
        refine rd_rI (by omega) ?_
        have z0 : (0 : Int) + (i : Nat) = (i : Nat) := by omega
        have zg : ((0 : Int) + (i : Nat) + st) % (n : Nat) = ((i : Nat) + st) % (n : Nat) := by rw [z0]
        rw [zg, z0]
        have zs : stepC (n : Nat) (i : Nat) L st = if ((i : Nat) : Int) = ((i : Nat) + st) % (n : Nat) then L else if pairOf (i : Nat) (((i : Nat) + st) % (n : Nat)) ∈ L then L else L ++ [pairOf (i : Nat) (((i : Nat) + st) % (n : Nat))] := rfl
        rw [zs]
        generalize (((i : Nat) : Int) + st) % (n : Nat) = ot
        walk_at "rd"
        by_cases h1 : ((i : Nat) : Int) = ot
        · rw [if_pos h1]
          refine iteF' (by simp [h1]) ?_
          walk_at "rd"
          exact ⟨⟨_, _, _, _, _, rfl⟩, I, ha⟩
        · rw [if_neg h1]
          refine iteT' (by simp [h1]) ?_
          walk_at "rd"
          refine ⟨_, _, rfl, ?_⟩
          walk_at "rd"
          refine ⟨_, _, rfl, ?_⟩
          walk_at "rd"
          intro u H12 u0 S12 hu
          have hu : PairAt H12 u (pairOf (i : Nat) ot) := hu
          have I12 := I.same S12
          have ha12 := S12 _ _ ha
          obtain ⟨_, _, ps, hps, hpp⟩ := I12
          walk_at "rd"
          refine rd_notInP hu hps hpp ?_
          walk_at "rd"
          by_cases h2 : pairOf (i : Nat) ot ∈ L
          · rw [if_pos h2]
            refine iteF' (by simp [h2]) ?_
            walk_at "rd"
            exact ⟨⟨_, _, _, _, _, rfl⟩, I.same S12, ha12⟩
          · rw [if_neg h2]
            refine iteT' (by simp [h2]) ?_
            walk_at "rd"
            refine rd_ty hps ?_
            walk_at "rd"
            refine ⟨_, _, rfl, ?_⟩
            walk_at "rd"
            refine ⟨_, _, rfl, ?_⟩
            walk_at "rd"
            intro v H13 v0 S13 hv
            have hv : PairAt H13 v (pairOf (i : Nat) ot) := hv
            obtain ⟨xs, hxs, lxs, I13⟩ := ((I.same S12).same S13).app lp lq l00 hv
            walk_at "rd"
            refine rd_app hxs (by omega) ?_
            walk_at "rd"
            refine ⟨⟨_, _, _, _, _, rfl⟩, I13, ?_⟩
            rw [upd_ne asl]
            exact S13 _ _ ha12
      · obtain ⟨⟨o7, o8, o9, o10, o11, rfl⟩, I, ha⟩ := pv
        rw [List.length_map, List.take_length, ← circ_succ] at I
        walk_at "rd"
        exact ⟨⟨_, _, _, _, _, _, rfl⟩, I, ha⟩
    · obtain ⟨⟨o6, o7, o8, o9, o10, o11, rfl⟩, I, ha⟩ := pv
      have fin : ∀ (H' : Hp) (L : List (Int × Int)) (σ : L2.St), σ[3]? = some (some (V.ref l)) → LkInv p q l H H' L → Good n 4 L → tRet (tCB (rSortedPO K) (tCons (tVar 3) tNil)) { nx := fun x H' => Q V.non H', rt := Q } σ H' := fun H' L σ hσ I g => by
        obtain ⟨d', f', ps, hps, hpp⟩ := I
        refine rd_ret (rd_cb (rd_cons (rd_var hσ (rd_nil ?_))))
        refine rd_sortedP hps hpp g.nd fun qs L' pm srt pr => ?_
        intro a H'' a0 S e
        exact hQ H'' a qs L' (d'.same S) (f'.trans (Fix.same S)) (f'.free d' a0) (d'.nes a0).1 (d'.nes a0).2 e (pairs_same pr S) (g.perm pm) srt
      walk_at "rd"
      by_cases h3 : 3 < f
      · refine iteT' (decide_eq_true h3) ?_
        have spn : sp = [] := by
          rw [← hsp]
          have : f = 4 ∨ f = 5 := by omega
          rcases this with rfl | rfl <;> rfl
        rw [spn, circ_nil] at I
        walk_at "rd"
        refine ⟨by omega, by omega, ?_⟩
        refine for_range (lo := 0) (n := n) (fun o σ H' => (∃ o5 o6 o7 o8 o9 o10 o11, σ = [some (.ref p), some (.int (n : Nat)), some (.int f), some (.ref l), some (.int (1 + m)), o5, o6, o7, o8, o9, o10, o11]) ∧
          ∃ L, LkInv p q l H H' L ∧ Bf o 0 L) ⟨⟨_, _, _, _, _, _, _, rfl⟩, [], I, ⟨by simp, List.nodup_nil, by simp, by simp⟩⟩ (fun o σ H' ho pv => ?_) (fun σ H' pv => ?_)
        · obtain ⟨⟨o5, o6, o7, o8, o9, o10, o11, rfl⟩, L, I, B⟩ := pv
          walk_at "rd"
          refine ⟨by omega, by omega, ?_⟩
          have e0 : ((0 : Int) + (o : Nat)).toNat = o := by omega
          rw [e0]
          refine for_range (lo := 0) (n := o) (fun i σ H' => (∃ o5 o6 o7 o9 o10 o11, σ = [some (.ref p), some (.int (n : Nat)), some (.int f), some (.ref l), some (.int (1 + m)), o5, o6, o7, some (.int (0 + (o : Nat))), o9, o10, o11]) ∧
            ∃ L, LkInv p q l H H' L ∧ Bf o i L) ⟨⟨_, _, _, _, _, _, rfl⟩, L, I, B⟩ (fun i σ H' hi pv => ?_) (fun σ H' pv => ?_)
          · obtain ⟨⟨o5, o6, o7, o9, o10, o11, rfl⟩, L, I, B⟩ := pv
            walk_at "rd"
            intro u H12 u0 S12 hu
            have I12 := I.same S12
            refine ⟨u, rfl, ⟨_, SqT.of hu⟩, fun D hD => ?_⟩
            have lL : L.length ≤ 100 := by have := B.len; omega
            have hD' : H' D = none := S12.free hD
            refine lc_tup (xs := [V.int (0 + (i : Nat)), V.int (0 + (o : Nat))]) (fun j H' => Same H12 H' ∧ H' D = some (.lst (([((i : Nat) : Int), ((o : Nat) : Int)].take j).map fun s => V.int ((L.filter (inc s)).length : Nat))))
              ⟨Same.fresh hD, upd_same⟩ (fun j H' _ pv => SqT.of (pv.1 _ _ hu)) (fun j x H13 hx pv => ?_) (fun H13 pv => ?_)
            · obtain ⟨S13, hD13⟩ := pv
              obtain ⟨s, hs, rfl⟩ : ∃ s : Int, [((i : Nat) : Int), ((o : Nat) : Int)][j]? = some s ∧ x = V.int s := by
                match j, hx with
                | 0, hx => simp at hx; exact ⟨_, rfl, by rw [← hx]⟩
                | 1, hx => simp at hx; exact ⟨_, rfl, by rw [← hx]⟩
                | j + 2, hx => simp at hx
              have I13 := I12.same S13
              obtain ⟨_, _, ps, hps, hpp⟩ := I13
              walk_at "rd"
              refine ⟨rfl, ?_⟩
              walk_at "rd"
              refine ⟨l, rfl, ⟨_, SqL.of hps⟩, fun D2 hD2 => ?_⟩
              refine lc_list (xs := ps.map V.ref) (fun k H' => Same H13 H' ∧ ∃ vs, H' D2 = some (.lst vs) ∧ vs.length = ((L.take k).filter (inc s)).length)
                ⟨Same.fresh hD2, [], upd_same, rfl⟩ (fun k H' _ pv => SqL.of (pv.1 _ _ hps)) (fun k x H14 hx pv => ?_) (fun H14 pv => ?_)
              · obtain ⟨S14, vs, hvs, lv⟩ := pv
                rw [List.getElem?_map] at hx
                obtain ⟨t, ht, rfl⟩ := Option.map_eq_some_iff.mp hx
                obtain ⟨e, he, hte⟩ := paired_get hpp ht
                have hte14 : PairAt H14 t e := S14 _ _ hte
                have hfl : ((L.take (k + 1)).filter (inc s)).length = ((L.take k).filter (inc s)).length + if inc s e = true then 1 else 0 := by
                  rw [List.take_succ, he, List.filter_append, List.length_append]
                  congr 1
                  by_cases z : inc s e = true
                  · simp [z]
                  · simp [z]
                walk_at "rd"
                refine ⟨rfl, ?_⟩
                walk_at "rd"
                refine rd_inI (row := [e.1, e.2]) (.inr (SqT.of hte14)) ?_
                walk_at "rd"
                rw [inc_in]
                by_cases z : inc s e = true
                · refine iteT' z ?_
                  rw [if_pos z] at hfl
                  walk_at "rd"
                  refine ⟨vs, hvs, ?_, Same.put S14 hD2, vs ++ [V.ref t], upd_same, by rw [hfl, List.length_append, lv]; rfl⟩
                  have h1 : ((L.take k).filter (inc s)).length ≤ L.length := by
                    have a := List.length_filter_le (inc s) (L.take k)
                    have b : (L.take k).length ≤ L.length := by rw [List.length_take]; omega
                    omega
                  exact Nat.lt_of_le_of_lt (by omega : vs.length ≤ 100) (by decide)
                · refine iteF' (by simpa using z) ?_
                  rw [if_neg z] at hfl
                  exact ⟨S14, vs, hvs, by rw [hfl, lv]; rfl⟩
              · obtain ⟨S14, vs, hvs, lv⟩ := pv
                rw [List.length_map, paired_len hpp, List.take_length] at lv
                walk_at "rd"
                refine rd_len hvs ?_
                refine ⟨_, S14 _ _ hD13, ?_, Same.put (S13.trans S14) hD, ?_⟩
                · rw [List.length_map, List.length_take]
                  exact Nat.lt_of_le_of_lt (Nat.min_le_right _ _) (by show 2 < sizeLine; decide)
                · rw [upd_same, lv]
                  congr 2
                  have : ([((i : Nat) : Int), ((o : Nat) : Int)].take (j + 1)) = ([((i : Nat) : Int), ((o : Nat) : Int)].take j) ++ [s] := by rw [List.take_succ, hs]; rfl
                  rw [this, List.map_append]
                  rfl
            · obtain ⟨S13, hD13⟩ := pv
              have I13 := I12.same S13
              obtain ⟨Dl13, Fx13, _, hl13, _⟩ := id I13
              walk_at "rd"
              refine rd_max (ns := [((L.filter (inc ((i : Nat) : Int))).length : Int), ((L.filter (inc ((o : Nat) : Int))).length : Int)]) hD13 (Nat.zero_lt_succ _) fun mx mm my => ?_
              have y1 := my _ List.mem_cons_self
              have y2 := my _ (List.mem_cons_of_mem _ List.mem_cons_self)
              walk_at "rd"
              by_cases c1 : mx < 1 + m
              · refine iteT' (decide_eq_true c1) ?_
                walk_at "rd"
                refine ⟨p, q, 3, rfl, Dl13, by decide, by decide, fun H14 w' d14 f14 w0 w3 => ?_⟩
                have I14 := I13.fix lp lq d14 f14
                obtain ⟨_, _, _, hl14, _⟩ := id I14
                walk_at "rd"
                by_cases c2 : 0 < w'
                · refine iteT' (decide_eq_true c2) ?_
                  walk_at "rd"
                  refine rd_ty hl14 ?_
                  walk_at "rd"
                  intro v H15 v0 S15 hv
                  have z1 : (0 : Int) + (i : Nat) = (i : Nat) := by omega
                  have z2 : (0 : Int) + (o : Nat) = (o : Nat) := by omega
                  rw [z1, z2] at hv
                  have hv : PairAt H15 v (((i : Nat) : Int), ((o : Nat) : Int)) := hv
                  obtain ⟨xs, hxs, lxs, I15⟩ := (I14.same S15).app lp lq l00 hv
                  walk_at "rd"
                  refine rd_app hxs (by omega) ?_
                  walk_at "rd"
                  exact ⟨⟨_, _, _, _, _, _, rfl⟩, _, I15, B.app hi (by omega) (by omega)⟩
                · refine iteF' (decide_eq_false c2) ?_
                  walk_at "rd"
                  exact ⟨⟨_, _, _, _, _, _, rfl⟩, L, I14, B.skip⟩
              · refine iteF' (decide_eq_false c1) ?_
                walk_at "rd"
                exact ⟨⟨_, _, _, _, _, _, rfl⟩, L, I13, B.skip⟩
          · obtain ⟨⟨o5, o6, o7, o9, o10, o11, rfl⟩, L, I, B⟩ := pv
            exact ⟨⟨_, _, _, _, _, _, _, rfl⟩, L, I, B.next (by omega)⟩
        · obtain ⟨⟨o5, o6, o7, o8, o9, o10, o11, rfl⟩, L, I, B⟩ := pv
          exact fin _ L _ rfl I B.good
      · refine iteF' (decide_eq_false h3) ?_
        walk_at "rd1"
        walk_at "rd1"
        refine fin _ _ _ rfl I ?_
        rw [← hsp]
        have := goodB_ok (circ_good n n1 n10 f.toNat (by omega))
        have e : ((f.toNat : Nat) : Int) = f := by omega
        rwa [e] at this
end
end K71

namespace K71
open PySem PySem.Spec PyProof.Rows L2 KX
local macro_rules | `(tactic| walk_at "rd1") => `(tactic| first
  | with_reducible refine rd_seq ?_
  | with_reducible refine rd_for ?_
  | with_reducible refine rd_lc ?_
  | with_reducible refine rd_asg ?_
  | ((with_reducible refine' rd_var ?rdv ?_); (case rdv => exact rfl))
  | with_reducible refine rd_c ?_
  | with_reducible refine rd_op ?_
  | with_reducible refine rd_un ?_
  | with_reducible refine rd_cons ?_
  | with_reducible refine rd_nil ?_
  | with_reducible refine rd_call ?_
  | with_reducible refine rd_cb ?_
  | with_reducible refine rd_tB ?_
  | with_reducible refine rd_test ?_
  | with_reducible refine rd_bl ?_
  | with_reducible refine rd_rI0 ?_
  | with_reducible refine rd_eqI ?_
  | with_reducible refine rd_neI ?_
  | with_reducible refine rd_rU ?_
  | with_reducible refine rd_name ?_
  | with_reducible refine rd_ifs ?_
  | with_reducible refine rd_and ?_
  | with_reducible refine rd_or ?_
  | with_reducible refine rd_not ?_
  | with_reducible refine rd_yes ?_
  | with_reducible refine rd_andV ?_
  | with_reducible refine rd_orV ?_
  | with_reducible refine rd_notV ?_
  | with_reducible refine rd_if ?_
  | with_reducible refine rd_isN ?_
  | with_reducible refine rd_iT ?_
  | with_reducible refine rd_iF ?_
  | with_reducible refine rd_ret ?_
  | with_reducible refine rd_retN ?_
  | with_reducible refine rd_drop ?_
  | with_reducible refine rd_next ?_
  | with_reducible refine rd_cont ?_
  | with_reducible refine rd_brk ?_
  | with_reducible refine rd_nx ?_
  | with_reducible refine rd_rt ?_
  | with_reducible refine rd_ct ?_
  | with_reducible refine rd_bk ?_
  | with_reducible refine rd_par ?_
  | with_reducible refine rd_par3 ?_
  | with_reducible refine rd_par2 ?_
  | with_reducible refine rd_par33 ?_
  | with_reducible refine rd_gcons ?_
  | with_reducible refine rd_gnil ?_
  | with_reducible refine rd_sub ?_
  | with_reducible refine rd_tup ?_
  | with_reducible refine rd_lst ?_
  | ((with_reducible refine rd_tupT ?hl ?_); (case hl => exact Nat.le_of_ble_eq_true rfl))
  | ((with_reducible refine rd_lstT ?hl ?_); (case hl => exact Nat.le_of_ble_eq_true rfl))
  | with_reducible refine rd_bm ?_
  | with_reducible refine rd_bm0 ?_
  | with_reducible refine rd_sl ?_
  | with_reducible refine rd_noP ?_
  | with_reducible refine rd_part ?_
  | with_reducible refine rd_int ?_
  | with_reducible refine rd_int1 ?_
  | with_reducible refine rd_fld ?_
  | with_reducible refine rd_then ?_
  | with_reducible refine rd_raise ?_
  | with_reducible refine rd_one ?_
  | with_reducible refine rd_sfld ?_
  | with_reducible refine rd_ilist ?_
  | with_reducible refine rd_itup ?_
  | with_reducible refine rd_rng1 ?_
  | with_reducible refine rd_enum ?_
  | with_reducible refine rd_enumT ?_)
local macro_rules | `(tactic| walk_at "rd") => `(tactic| repeat (walk_at "rd1"))
def spDrawn : Sp := fun vs H Q _ => ∃ (p q : Addr) (k : Int) (n : Nat), vs = [.ref p, .int k, .int (n : Nat)] ∧ Deal H p q ∧ 1 ≤ k ∧ k ≤ 4 ∧ 1 ≤ n ∧ n < 10 ∧
  ∀ (H' : Hp) (t a l : Addr) (ms : List Int) (ps : List Addr) (L : List (Int × Int)), Deal H' p q → Fix p q H H' → H' t = some (.tup [.ref a, .ref l]) → H a = none → H l = none → a ≠ l → a ≠ p → a ≠ q → l ≠ p → l ≠ q →
    H' a = some (.lst (ms.map V.int)) → ms.length = n → (∀ m ∈ ms, 0 ≤ m ∧ m < k) →
    H' l = some (.lst (ps.map V.ref)) → Paired (PairAt H') ps L → Good n 4 L → L.Pairwise lexlt → Q (.ref t) H'
section
variable {P : Program} {w : World} {K : PySem.W.Frag} {mg : Str → Option Value} {base : Heap} (T : TX K mg)
theorem G__law_network : FnOk P w K mg base CX0 3 T.f__law_network T.d__law_network ["_law_deal", "_law_kinds", "_law_many"] spDrawn := by
  refine T.F__law_network.ok sc__law_network (fun vs H Q E h => ?_) fun cdv A outer s H vs Q E hr h => ⟨_, (pss_cons (ps_asg (pe_tup (pa_cons (pe_call (G__law_any T) (hr.mono (by decide)) (by rfl) T.m__law_any T.F__law_any.kp T.b__law_any .nil pass0 (by exact (pa_cons (pv 0) (pa_cons (pv 1) pa_nil)))) (pa_cons (pe_call (G__law_any T) (hr.mono (by decide)) (by rfl) T.m__law_any T.F__law_any.kp T.b__law_any .nil pass0 (by exact (pa_cons (pv 0) (pa_cons pe_int pa_nil)))) pa_nil))) (pg_tupK (K := K) (n := 2) (by rfl) (pgs_cons (pg_name (i := 3) sc__law_network.nd rfl (.inr rfl)) (pgs_cons (pg_name (i := 4) sc__law_network.nd rfl (.inr rfl)) pgs_nil)))) (pss_cons (ps_setLc (i := 5) (own := [("_law_at", 6)]) (by rfl) sc__law_network.nd rfl rfl (sw_true rfl rfl rfl (by decide +kernel)) (pi_range1 (by rfl) T.n_range (by exact (pa_cons (pv 2) pa_nil))) (blkOk_by (own := [("_law_at", 6)]) (N := N__law_network) (sc := defScope s__law_network) (by decide +kernel)) (fun _ _ _ _ _ => (pg_name (i := 6) sc__law_network.nd rfl (.inl rfl))) (fun _ _ _ _ _ => pts_nil) (fun _ _ _ _ _ => (pe_ifExp (pt_cmpR op_eq (pv 4) pe_int (nomark _)) (pe_op op_mod (pe_callTy call_int1 (by rfl) T.n_int (by decide +kernel) (by exact (pa_cons (pe_op op_add (pv 3) (pv 6)) pa_nil))) (pv 1)) (pe_call (G__law_any T) (hr.mono (by decide)) (by rfl) T.m__law_any T.F__law_any.kp T.b__law_any .nil pass0 (by exact (pa_cons (pv 0) (pa_cons (pv 1) pa_nil)))))) ) (pss_one (ps_ret (pe_tup (pa_cons (pv 5) (pa_cons (pe_call (G__law_links T) (hr.mono (by decide)) (by rfl) T.m__law_links T.F__law_links.kp T.b__law_links .nil pass0 (by exact (pa_cons (pv 0) (pa_cons (pv 2) pa_nil)))) pa_nil))))))), ?_⟩
  · obtain ⟨p, q, k, n, rfl, _⟩ := h
    rfl
  · obtain ⟨p, q, k, n, rfl, d, k1, k4, n1, n10, hQ⟩ := h
    walk_at "rd"
    refine ⟨p, q, k, rfl, d, by omega, by omega, fun H1 st d1 f1 st0 stk => ?_⟩
    walk_at "rd"
    refine ⟨p, q, 3, rfl, d1, by omega, by omega, fun H2 tn d2 f2 t0 t3 => ?_⟩
    walk_at "rd"
    intro t H3 tt0 S3 ht
    refine rd_gtup (Tup.of ht) rfl ?_
    have d3 := d2.same S3
    walk_at "rd"
    refine ⟨by omega, by omega, fun D hD => ?_⟩
    obtain ⟨d4, Dp, Dq⟩ := d3.new (o := .lst []) hD
    have D0 : H D = none := f1.free d1 (f2.free d2 (S3.free hD))
    refine lc_range (lo := 0) (n := n) (fun i H' => Deal H' p q ∧ Fix p q H3 H' ∧ ∃ ms : List Int, H' D = some (.lst (ms.map V.int)) ∧ ms.length = i ∧ ∀ m ∈ ms, 0 ≤ m ∧ m < k)
      ⟨d4, Fix.new hD, [], upd_same, rfl, by simp⟩ (fun i H' hi pv => ?_) (fun H' pv => ?_)
    · obtain ⟨d5, f5, ms, hms, lms, bms⟩ := pv
      have put : ∀ (H6 : Hp) (j : Int), Deal H6 p q → Fix p q H' H6 → 0 ≤ j → j < k → ∃ acc, H6 D = some (.lst acc) ∧ acc.length < sizeLine ∧ (Deal (upd H6 D (.lst (acc ++ [V.int j]))) p q ∧ Fix p q H3 (upd H6 D (.lst (acc ++ [V.int j]))) ∧
          ∃ ms : List Int, upd H6 D (.lst (acc ++ [V.int j])) D = some (.lst (ms.map V.int)) ∧ ms.length = i + 1 ∧ ∀ m ∈ ms, 0 ≤ m ∧ m < k) := fun H6 j d6 f6 j0 jk => by
        refine ⟨_, f6 _ _ Dp Dq hms, ?_, d6.off Dp Dq, (f5.trans f6).upd hD, ms ++ [j], ?_, by simp [lms], fun m hm => ?_⟩
        · rw [List.length_map]
          exact Nat.lt_of_le_of_lt (by omega : ms.length ≤ 100) (by decide)
        · rw [upd_same]; simp
        · rcases List.mem_append.mp hm with z | z
          · exact bms m z
          · rw [List.mem_singleton.mp z]; omega
      walk_at "rd"
      refine ⟨rfl, ?_⟩
      walk_at "rd"
      by_cases c : tn = 0
      · refine iteT' (decide_eq_true c) ?_
        walk_at "rd"
        refine .inl ⟨_, rfl, ?_⟩
        walk_at "rd"
        refine rd_rI (by omega) ?_
        exact put H' _ d5 (Fix.refl _ _ _) (Int.emod_nonneg _ (by omega)) (Int.emod_lt_of_pos _ (by omega))
      · refine iteF' (decide_eq_false c) ?_
        walk_at "rd"
        refine ⟨p, q, k, rfl, d5, by omega, by omega, fun H6 j d6 f6 j0 jk => ?_⟩
        exact put H6 j d6 f6 j0 jk
    · obtain ⟨d5, f5, ms, hms, lms, bms⟩ := pv
      walk_at "rd"
      refine ⟨p, q, n, rfl, d5, n1, n10, fun H6 l ps L d6 f6 l0 lp lq hl hps g sr => ?_⟩
      walk_at "rd"
      intro t' H7 t'0 S7 ht'
      have hms6 := f6 _ _ Dp Dq hms
      have Dl : D ≠ l := fun z => by rw [z, l0] at hms; cases hms
      exact hQ H7 t' D l ms ps L (d6.same S7) (f1.trans (f2.trans ((Fix.same S3).trans (f5.trans (f6.trans (Fix.same S7)))))) ht' D0 (f1.free d1 (f2.free d2 (S3.free (f5.free d5 l0)))) Dl Dp Dq lp lq
        (S7 _ _ hms6) lms bms (S7 _ _ hl) (pairs_same hps S7) g sr
end
end K71

namespace K71
open PySem PySem.Spec PyProof.Rows L2 KX
local macro_rules | `(tactic| walk_at "rd1") => `(tactic| first
  | with_reducible refine rd_seq ?_
  | with_reducible refine rd_for ?_
  | with_reducible refine rd_lc ?_
  | with_reducible refine rd_asg ?_
  | ((with_reducible refine' rd_var ?rdv ?_); (case rdv => exact rfl))
  | with_reducible refine rd_c ?_
  | with_reducible refine rd_op ?_
  | with_reducible refine rd_un ?_
  | with_reducible refine rd_cons ?_
  | with_reducible refine rd_nil ?_
  | with_reducible refine rd_call ?_
  | with_reducible refine rd_cb ?_
  | with_reducible refine rd_tB ?_
  | with_reducible refine rd_test ?_
  | with_reducible refine rd_bl ?_
  | with_reducible refine rd_rI0 ?_
  | with_reducible refine rd_eqI ?_
  | with_reducible refine rd_neI ?_
  | with_reducible refine rd_rU ?_
  | with_reducible refine rd_name ?_
  | with_reducible refine rd_ifs ?_
  | with_reducible refine rd_and ?_
  | with_reducible refine rd_or ?_
  | with_reducible refine rd_not ?_
  | with_reducible refine rd_yes ?_
  | with_reducible refine rd_andV ?_
  | with_reducible refine rd_orV ?_
  | with_reducible refine rd_notV ?_
  | with_reducible refine rd_if ?_
  | with_reducible refine rd_isN ?_
  | with_reducible refine rd_iT ?_
  | with_reducible refine rd_iF ?_
  | with_reducible refine rd_ret ?_
  | with_reducible refine rd_retN ?_
  | with_reducible refine rd_drop ?_
  | with_reducible refine rd_next ?_
  | with_reducible refine rd_cont ?_
  | with_reducible refine rd_brk ?_
  | with_reducible refine rd_nx ?_
  | with_reducible refine rd_rt ?_
  | with_reducible refine rd_ct ?_
  | with_reducible refine rd_bk ?_
  | with_reducible refine rd_par ?_
  | with_reducible refine rd_par3 ?_
  | with_reducible refine rd_par2 ?_
  | with_reducible refine rd_par33 ?_
  | with_reducible refine rd_gcons ?_
  | with_reducible refine rd_gnil ?_
  | with_reducible refine rd_sub ?_
  | with_reducible refine rd_tup ?_
  | with_reducible refine rd_lst ?_
  | ((with_reducible refine rd_tupT ?hl ?_); (case hl => exact Nat.le_of_ble_eq_true rfl))
  | ((with_reducible refine rd_lstT ?hl ?_); (case hl => exact Nat.le_of_ble_eq_true rfl))
  | with_reducible refine rd_bm ?_
  | with_reducible refine rd_bm0 ?_
  | with_reducible refine rd_sl ?_
  | with_reducible refine rd_noP ?_
  | with_reducible refine rd_part ?_
  | with_reducible refine rd_int ?_
  | with_reducible refine rd_int1 ?_
  | with_reducible refine rd_fld ?_
  | with_reducible refine rd_then ?_
  | with_reducible refine rd_raise ?_
  | with_reducible refine rd_one ?_
  | with_reducible refine rd_sfld ?_
  | with_reducible refine rd_ilist ?_
  | with_reducible refine rd_itup ?_
  | with_reducible refine rd_rng1 ?_
  | with_reducible refine rd_enum ?_
  | with_reducible refine rd_enumT ?_)
local macro_rules | `(tactic| walk_at "rd") => `(tactic| repeat (walk_at "rd1"))
/-- a comprehension over a list or a tuple, its values told -/
theorem lcv_both {K : PySem.W.Frag} {g : TG} {te ti : TE} {vs : List Nat} {σ : L2.St} {H1 : Hp} {x : V} {xs : List V} {Q : Addr → Hp → Prop} (zs : List V) (hx : SqX K H1 x (some xs)) (hi : ∀ R : VK, R x H1 → ti σ H1 R) (lz : zs.length = xs.length) (hz : zs.length < 1000000)
    (hs : ∀ (i : Nat) (x z : V) (H' : Hp), xs[i]? = some x → zs[i]? = some z → Same H1 H' → ∀ R : VK, (∀ H4, Same H' H4 → R z H4) → g x (wipe σ vs) H' fun σ2 H2 => wipe σ2 vs = wipe σ vs ∧ te σ2 H2 R)
    (hd : ∀ H' D, Same H1 H' → H' D = some (.lst zs) → Q D H') {R : It → Hp → Prop} (hR : R = fun J H1 => ∀ D, H1 D = none → ∃ W : Nat → Nat → Hp → Prop, (∃ m, W 0 m (upd H1 D (.lst []))) ∧ ∀ i m H, W i m H →
      (J.stop i H ∧ Q D H) ∨ (J.go i H ∧ ∃ Nx : Hp → Prop, (∀ H', Nx H' → ∃ m', m' < m ∧ W (i + 1) m' H') ∧ ∀ x H', J.yld i H x H' → g x (wipe σ vs) H' fun σ2 H2 => wipe σ2 vs = wipe σ vs ∧ tYes σ2 H2 fun b H3 =>
        if b = true then te σ2 H3 fun y H4 => ∃ acc, H4 D = some (.lst acc) ∧ acc.length < sizeLine ∧ Nx (upd H4 D (.lst (acc ++ [y]))) else Nx H3)) : iList K ti σ H1 R ∨ iTup K ti σ H1 R := by
  subst hR
  cases hx with
  | lst h => exact .inl (hi _ ⟨_, rfl, ⟨_, SqL.of h⟩, fun D hD => lcv_list zs h lz hz hD hs fun H' S e => hd H' D S e⟩)
  | tup h => exact .inr (hi _ ⟨_, rfl, ⟨_, h.sq⟩, fun D hD => lcv_tup zs h lz hz hD hs fun H' S e => hd H' D S e⟩)
/-- a tuple of so many -/
def spIsTup (K : PySem.W.Frag) : L2.Sp := fun vs H Q _ => ∃ (x : V) (k : Int), vs = [x, .int k] ∧
  ((∃ n, TyX K H x (.type n) ∧ kitB n "tuple" = some false ∧ Q (.bl false) H) ∨ ∃ a xs, x = .ref a ∧ Tup H a xs ∧ Q (.bl (decide ((xs.length : Int) = k))) H)
inductive NbIs (K : PySem.W.Frag) (H : Hp) : V → Bool → Prop
  | oth {x : V} (s : SqX K H x none) : NbIs K H x false
  | long {x : V} {xs : List V} (s : SqX K H x (some xs)) (l : 4 < xs.length) : NbIs K H x false
  | all {x : V} {xs : List V} {os : List (Option Int)} (s : SqX K H x (some xs)) (k : Paired (Kin K H) xs os) (l : xs.length ≤ 4) : NbIs K H x (os.all bel4)
def spNb (K : PySem.W.Frag) : L2.Sp := fun vs H Q _ => ∃ x b, vs = [x] ∧ NbIs K H x b ∧ ∀ H', Same H H' → Q (.bl b) H'
def spMV (K : PySem.W.Frag) (CV : Addr) : L2.Sp := fun vs H Q E => ∃ x z o b, vs = [x, z] ∧ Kin K H x o ∧ NbIs K H z b ∧
  ((bel4 o && b) = false → ErrAt CV E H 0) ∧
  ((bel4 o && b) = true → ∃ (m : Int) (ns : List Int), x = .int m ∧ SqX K H z (some (ns.map V.int)) ∧ ns.length < 64 ∧
    ∀ (ns' : List Int) (r p : Addr) (H' : Hp), Same H H' → ns'.Perm ns → ns'.Pairwise (· ≤ ·) → H' r = some (.tup (ns'.map V.int)) → H' p = some (.tup [.int m, .ref r]) → Q (.ref p) H')
section
variable {P : Program} {w : World} {K : PySem.W.Frag} {mg : Str → Option Value} {base : Heap} (T : TX K mg)
theorem G_is_tuple_of : FnOk P w K mg base CX0 1 T.f_is_tuple_of T.d_is_tuple_of ["value", "length"] (spIsTup K) := by
  refine T.F_is_tuple_of.ok sc_is_tuple_of (fun vs H Q E h => ?_) fun cdv A outer s H vs Q E hr h => ⟨_, (pss_one (ps_ret (pe_and (pe_callB (cr_isiK (K := K)) (by rfl) T.n_isinstance (by decide +kernel) (by exact (pa_cons (pv 0) (pa_cons (pe_bltn (v := .ty "tuple") rfl T.n_tuple (by decide +kernel) rfl) pa_nil)))) (pe_one (pe_cmpR op_eq (pe_callB (cr_lenK (K := K)) (by rfl) T.n_len (by decide +kernel) (by exact (pa_cons (pv 0) pa_nil))) (pv 1) (nomark _)))))), ?_⟩
  · obtain ⟨x, k, rfl, _⟩ := h
    rfl
  · obtain ⟨x, k, rfl, h⟩ := h
    walk_at "rd"
    rcases h with ⟨n, ty, k1, hQ⟩ | ⟨a, xs, rfl, ha, hQ⟩
    · refine ⟨_, _, _, _, _, rfl, .ty "tuple", ty, kit_ty k1, ?_⟩
      walk_at "rd"
      exact hQ
    · refine ⟨_, _, _, _, true, rfl, .ty "tuple", ha.ty, kit_ty (by decide +kernel), ?_⟩
      walk_at "rd"
      refine rd_lenTup ha ?_
      walk_at "rd"
      exact hQ
theorem G_are_neighbours : FnOk P w K mg base CX0 5 T.f_are_neighbours T.d_are_neighbours ["value"] (spNb K) := by
  refine T.F_are_neighbours.ok sc_are_neighbours (fun vs H Q E h => ?_) fun cdv A outer s H vs Q E hr h => ⟨_, (pss_cons (ps_if (PW.pt (pw_or (pt_not (pt_val (pe_call (G_is_sequence T) (hr.mono (by decide)) (by rfl) T.m_is_sequence T.F_is_sequence.kp T.b_is_sequence .nil pass0 (by exact (pa_cons (pv 0) pa_nil))))) (pw_or1 (pt_cmpR op_gt (pe_callB (cr_lenK (K := K)) (by rfl) T.n_len (by decide +kernel) (by exact (pa_cons (pv 0) pa_nil))) (pe_glob (v := .int 4) rfl T.m_MOST_NEIGHBOURS ⟨_, rfl⟩) (nomark _))))) (pss_one (ps_ret pe_bl)) pss_nil) (pss_one (ps_ret (pe_callB (cr_allK (K := K) rfl) (by rfl) T.n_all (by decide +kernel) (by exact (pa_cons (by exact (pe_lc (own := [("mode", 1)]) (by rfl) sc_are_neighbours.nd (PI.or (pi_listK (K := K) (pv 0)) (pi_tupK (K := K) (pv 0))) (blkOk_by (own := [("mode", 1)]) (N := N_are_neighbours) (sc := defScope s_are_neighbours) (by decide +kernel)) (fun _ _ _ _ _ => (pg_name (i := 1) sc_are_neighbours.nd rfl (.inl rfl))) (fun _ _ _ _ _ => pts_nil) (fun _ _ _ _ _ => (pe_call (G_is_mode T) (hr.mono (by decide)) (by rfl) T.m_is_mode T.F_is_mode.kp T.b_is_mode .nil pass0 (by exact (pa_cons (pv 1) pa_nil)))) )) pa_nil)))))), ?_⟩
  · obtain ⟨x, b, rfl, _⟩ := h
    rfl
  · obtain ⟨x, b, rfl, hn, hQ⟩ := h
    walk_at "rd"
    cases hn with
    | oth s =>
      refine ⟨_, _, rfl, s, fun H1 S1 => ?_⟩
      walk_at "rd"
      refine rd_iT ?_
      walk_at "rd"
      exact hQ H1 S1
    | @long xs s l =>
      refine ⟨_, _, rfl, s, fun H1 S1 => ?_⟩
      walk_at "rd"
      refine rd_iF ?_
      walk_at "rd"
      obtain ⟨a, rfl, hs⟩ := (sqx_same s S1).any
      refine rd_lenB hs ?_
      walk_at "rd"
      refine iteT' (decide_eq_true (by omega)) ?_
      walk_at "rd"
      exact hQ H1 S1
    | @all xs os s k l =>
      refine ⟨_, _, rfl, s, fun H1 S1 => ?_⟩
      walk_at "rd"
      refine rd_iF ?_
      walk_at "rd"
      have s1 := sqx_same s S1
      have k1 := kins_same k S1
      have lo := paired_len k
      obtain ⟨a, rfl, hs⟩ := s1.any
      refine rd_lenB hs ?_
      walk_at "rd"
      refine iteF' (decide_eq_false (by omega)) ?_
      walk_at "rd"
      refine lcv_both (xs := xs) (os.map fun o => V.bl (bel4 o)) s1 (by intro R r; exact rd_var rfl r) (by rw [List.length_map]; omega) (by rw [List.length_map]; omega) (fun i x z H2 hx hz S2 R hR => ?_) (fun H2 D S2 hD => ?_) rfl
      · rw [List.getElem?_map] at hz
        obtain ⟨o, ho, rfl⟩ := Option.map_eq_some_iff.mp hz
        obtain ⟨o', ho', ko⟩ := paired_get k1 hx
        rw [ho] at ho'
        cases ho'
        walk_at "rd"
        refine ⟨rfl, ?_⟩
        walk_at "rd"
        exact ⟨_, _, rfl, kin_same ko S2, hR H2 (Same.refl _)⟩
      · walk_at "rd"
        have e : (os.map fun o => V.bl (bel4 o)) = (os.map bel4).map V.bl := by simp
        rw [e] at hD
        refine ⟨D, os.map bel4, rfl, SqL.of hD, ?_⟩
        have e2 : (os.map bel4).all id = os.all bel4 := by simp [List.all_map]
        rw [e2]
        exact hQ H2 (S1.trans S2)
theorem G_made_view : FnOk P w K mg base (L2.CX P w) 6 T.f_made_view T.d_made_view ["mode", "neighbours"] (spMV K T.c_InvalidView) := by
  refine T.F_made_view.okX sc_made_view (fun vs H Q E h => ?_) fun cdv A outer s H vs Q E hr h => ⟨_, (pss_cons (ps_if (PW.pt (pw_or (pt_not (pt_val (pe_call (G_is_mode T) (hr.mono (by decide)) (by rfl) T.m_is_mode T.F_is_mode.kp T.b_is_mode .nil pass0 (by exact (pa_cons (pv 0) pa_nil))))) (pw_or1 (pt_not (pt_val (pe_call (G_are_neighbours T) (hr.mono (by decide)) (by rfl) T.m_are_neighbours T.F_are_neighbours.kp T.b_are_neighbours .nil pass0 (by exact (pa_cons (pv 1) pa_nil)))))))) (pss_one (ps_raiseErrZ rfl T.E_InvalidView hr (takes_of rfl rfl rfl rfl) (by exact (pa_cons pe_int pa_nil)))) pss_nil) (pss_one (ps_ret (pe_tup (pa_cons (pv 0) (pa_cons (pe_tupleK (K := K) (by rfl) T.n_tuple (pe_callB (KX.CallR.or (cr_sortedK (K := K)) (cr_sortTK (K := K))) (by rfl) T.n_sorted (by decide +kernel) (by exact (pa_cons (pv 1) pa_nil)))) pa_nil)))))), ?_⟩
  · obtain ⟨x, z, o, b, rfl, _⟩ := h
    rfl
  · obtain ⟨x, z, o, b, rfl, k, hn, hE, hQ⟩ := h
    walk_at "rd"
    refine ⟨_, _, rfl, k, ?_⟩
    walk_at "rd"
    cases hb : bel4 o with
    | false =>
      refine rd_iT ?_
      walk_at "rd"
      exact fun d hd => hE (by rw [hb]; rfl) H d (Same.refl H) hd
    | true =>
      refine rd_iF ?_
      walk_at "rd"
      refine ⟨_, _, rfl, hn, fun H1 S1 => ?_⟩
      walk_at "rd"
      cases b with
      | false =>
        refine rd_iT ?_
        walk_at "rd"
        exact fun d hd => hE (by rw [Bool.and_false]) H1 d S1 hd
      | true =>
        refine rd_iF ?_
        walk_at "rd"
        obtain ⟨m, ns, rfl, sq, l, hQ⟩ := hQ (by rw [hb]; rfl)
        have fin : ∀ ns' : List Int, ns'.Perm ns → ns'.Pairwise (· ≤ ·) → NewO H1 (.lst (ns'.map V.int)) fun x H' => kTup K x H' fun y H'' => tNil (L2.start N_made_view [V.int m, z]) H'' fun xs H2 => TupTail (fun v H3 => Q v H3) (V.int m :: y :: xs) H2 := fun ns' pm srt => by
          intro p H2 p0 S2 hp
          refine rd_tupL hp ?_
          intro q H3 q0 S3 hq
          refine rd_nil (rd_tupT (by show 2 ≤ 1000; decide) ?_)
          intro t H4 t0 S4 ht
          exact hQ ns' q t H4 (((S1.trans S2).trans S3).trans S4) pm srt (S4 _ _ hq) ht
        have sq1 := sqx_same sq S1
        cases sq1 with
        | lst h => exact .inl ⟨_, ns, rfl, SqL.of h, l, fun ns' p perm srt hp => new_of (fin ns' perm srt) p hp⟩
        | tup h => exact .inr ⟨_, ns, rfl, h.sq, l, fun ns' p perm srt hp => new_of (fin ns' perm srt) p hp⟩
end
end K71

namespace K71
open PySem PySem.Spec PyProof.Rows L2 KX
/-! ### networks made, and refused -/
/-- the first index where it goes wrong -/
def BadAt (os : List (Option Int)) (i : Nat) : Prop := (∃ o, os[i]? = some o ∧ bel4 o = false) ∧ ∀ j o', j < i → os[j]? = some o' → bel4 o' = true
theorem BadAt.uniq {os : List (Option Int)} {i j : Nat} (h : BadAt os i) (h' : BadAt os j) : i = j := by
  obtain ⟨⟨o, e, b⟩, f⟩ := h
  obtain ⟨⟨o', e', b'⟩, f'⟩ := h'
  rcases Nat.lt_trichotomy i j with z | z | z
  · rw [f' i o z e] at b; cases b
  · exact z
  · rw [f j o' z e'] at b'; cases b'
/-- the first link that cannot be -/
def BadL (n : Nat) (es : List (Option (Int × Int))) (i : Nat) : Prop := ∃ e R, es[i]? = some e ∧ runP (emptyR n) (es.take i) = some R ∧ okL R e = false
theorem runP_take : ∀ (es : List (Option (Int × Int))) (i : Nat) (R R' : List (List Int)), runP R es = some R' → ∃ R1, runP R (es.take i) = some R1
  | es, 0, R, R', _ => ⟨R, by rw [List.take_zero]; rfl⟩
  | [], i + 1, R, R', _ => ⟨R, rfl⟩
  | e :: es, i + 1, R, R', h => by
    cases hs : stepL R e with
    | none =>
      have h : (stepL R e).bind (fun R' => runP R' es) = some R' := h
      rw [hs] at h; cases h
    | some R2 =>
      have h' : (stepL R e).bind (fun R' => runP R' es) = some R' := h
      rw [hs] at h'
      obtain ⟨R1, h1⟩ := runP_take es i R2 R' h'
      refine ⟨R1, ?_⟩
      show (stepL R e).bind (fun R' => runP R' (es.take i)) = some R1
      rw [hs]
      exact h1
theorem BadL.next {n : Nat} {es : List (Option (Int × Int))} {i : Nat} (h : BadL n es i) : runP (emptyR n) (es.take (i + 1)) = none := by
  obtain ⟨e, R, h1, h2, h3⟩ := h
  have : es.take (i + 1) = es.take i ++ [e] := by rw [List.take_succ, h1]; rfl
  rw [this, runP_snoc, h2]
  show stepL R e = none
  unfold stepL
  rw [if_neg (by rw [h3]; decide)]
theorem BadL.none {n : Nat} {es : List (Option (Int × Int))} {i j : Nat} (h : BadL n es i) (hj : i < j) : runP (emptyR n) (es.take j) = none := by
  cases e : runP (emptyR n) (es.take j) with
  | none => rfl
  | some R =>
    obtain ⟨R1, h1⟩ := runP_take _ (i + 1) _ _ e
    rw [List.take_take, Nat.min_eq_left hj, h.next] at h1
    cases h1
theorem BadL.uniq {n : Nat} {es : List (Option (Int × Int))} {i j : Nat} (h : BadL n es i) (h' : BadL n es j) : i = j := by
  rcases Nat.lt_trichotomy i j with z | z | z
  · obtain ⟨_, R, _, h2, _⟩ := h'
    rw [h.none z] at h2; cases h2
  · exact z
  · obtain ⟨_, R, _, h2, _⟩ := h
    rw [h'.none z] at h2; cases h2
theorem BadL.bad {n : Nat} {es : List (Option (Int × Int))} {i : Nat} (h : BadL n es i) : runP (emptyR n) es = .none := by
  obtain ⟨e, R, h1, h2, h3⟩ := id h
  have hi := (List.getElem?_eq_some_iff.mp h1).1
  have := h.none (j := es.length) hi
  rwa [List.take_length] at this
section
variable {K : PySem.W.Frag} {C CI s dx : Addr} {x z : V} {H : Hp} {Q : VK} {E : XK}
abbrev made (H : Hp) (C s dx : Addr) : Hp := upd (upd H dx (.own s)) s (.ins C dx [])
theorem made_same (hs : H s = none) (hd : H dx = none) : Same H (made H C s dx) := fun a o e => by
  show upd (upd H dx (.own s)) s _ a = some o
  rw [upd_ne (fun y => by rw [y, hs] at e; cases e), upd_ne (fun y => by rw [y, hd] at e; cases e)]
  exact e
theorem ex_same {H' : Hp} (hs : H s = none) (hd : H dx = none) (h : Ex s (made H C s dx) H') : Same H H' := fun a o e =>
  h a o (fun y => by rw [y, hs] at e; cases e) (made_same hs hd a o e)
/-- what a handler of refusals gets -/
def Told (CI : Addr) (E : XK) (H : Hp) (i : Int) : Prop := ∀ H' d, Same H H' → H' d = none → E (.ref CI) (some d) (upd H' d (.xd [(("at" : Str), .int i)]))
theorem told_x {i : Int} (h : Told CI E H i) (hs : H s = none) (hd : H dx = none) : ErrX CI E s (made H C s dx) i := fun H' d e hd' => h H' d (ex_same hs hd e) hd'
/-- modes that are none -/
theorem net_badM {o : Option (List V)} {i : Nat} (hs : H s = none) (hd : H dx = none) (hx : SqX K H x o)
    (hb : (o = none ∨ o = some []) ∧ i = 0 ∨ ∃ xs os, o = some xs ∧ Paired (Kin K H) xs os ∧ BadAt os i) (hE : Told CI E H i) : spNet K C CI [.ref s, x, z] (made H C s dx) Q E := by
  have S : Same H (made H C s dx) := made_same hs hd
  refine ⟨s, dx, x, z, o, rfl, upd_same, sqx_same hx S, fun e => ?_, fun e => ?_, fun xs e h0 => ?_⟩
  · rcases hb with ⟨_, rfl⟩ | ⟨xs, os, e', _⟩
    · exact told_x hE hs hd
    · rw [e'] at e; cases e
  · rcases hb with ⟨_, rfl⟩ | ⟨xs, os, e', p, ⟨o', h1, h2⟩, _⟩
    · exact told_x hE hs hd
    · rw [e'] at e; cases e
      cases p
      simp at h1
  · rcases hb with ⟨e' | e', rfl⟩ | ⟨xs', os, e', p, b⟩
    · rw [e'] at e; cases e
    · rw [e'] at e; cases e; exact absurd rfl h0
    · rw [e'] at e; cases e
      refine ⟨os, paired_mono p fun _ _ k => kin_same k S, fun j o' h1 h2 h3 => ?_, fun all => ?_⟩
      · have : i = j := b.uniq ⟨⟨o', h1, h3⟩, h2⟩
        subst this
        exact told_x hE hs hd
      · obtain ⟨⟨o', h1, h2⟩, _⟩ := b
        rw [all o' (List.mem_of_getElem? h1)] at h2; cases h2
theorem bel4_of {m : Int} (h0 : 0 ≤ m) (h1 : m < 4) : bel4 (some m) = true := by
  show (decide (0 ≤ m) && decide (m < 4)) = true
  rw [decide_eq_true h0, decide_eq_true h1]; rfl
theorem kin_all (K : PySem.W.Frag) (H : Hp) : ∀ ms : List Int, Paired (Kin K H) (ms.map V.int) (ms.map some)
  | [] => .nil
  | m :: ms => .cons (.int m) (kin_all K H ms)
/-- good modes, links that are none -/
theorem net_badL {ms : List Int} {o : Option (List V)} {i : Nat} (hs : H s = none) (hd : H dx = none) (hx : SqX K H x (some (ms.map V.int))) (m0 : ms ≠ []) (ml : ms.length < 1000) (mb : ∀ m ∈ ms, 0 ≤ m ∧ m < 4) (hz : SqX K H z o)
    (hb : o = none ∧ i = 0 ∨ ∃ zs es, o = some zs ∧ Paired (LkIs K H ms.length) zs es ∧ BadL ms.length es i) (hE : Told CI E H ((ms.length : Nat) + i)) : spNet K C CI [.ref s, x, z] (made H C s dx) Q E := by
  have S : Same H (made H C s dx) := made_same hs hd
  refine ⟨s, dx, x, z, _, rfl, upd_same, sqx_same hx S, fun e => (by cases e), fun e => ?_, fun xs e h0 => ?_⟩
  · exact absurd (List.map_eq_nil_iff.mp (Option.some.inj e)) m0
  · cases e
    refine ⟨ms.map some, kin_all K _ ms, fun j o' h1 _ h3 => ?_, fun _ => ⟨by rw [List.length_map]; exact ml, ms, rfl, o, sqx_same hz S, fun e => ?_, fun zs e => ?_⟩⟩
    · rw [List.getElem?_map] at h1
      obtain ⟨m, hm, rfl⟩ := Option.map_eq_some_iff.mp h1
      obtain ⟨a, b⟩ := mb m (List.mem_of_getElem? hm)
      rw [bel4_of a b] at h3; cases h3
    · rcases hb with ⟨_, rfl⟩ | ⟨zs, es, e', _⟩
      · have : ((ms.length : Nat) : Int) + ((0 : Nat) : Int) = (ms.length : Nat) := by omega
        rw [this] at hE
        exact told_x hE hs hd
      · rw [e'] at e; cases e
    · rcases hb with ⟨e', _⟩ | ⟨zs', es, e', p, b⟩
      · rw [e'] at e; cases e
      · rw [e'] at e; cases e
        refine ⟨es, paired_mono p fun _ _ k => k.same S, fun j e R h1 h2 h3 => ?_, fun R hR => ?_⟩
        · have : i = j := b.uniq ⟨e, R, h1, h2, h3⟩
          subst this
          exact told_x hE hs hd
        · rw [b.bad] at hR; cases hR
theorem le4_run : ∀ (M : List (Int × Int)) (R R' : List (List Int)), (∀ e ∈ M, 0 ≤ e.1 ∧ 0 ≤ e.2 ∧ e.1 ≠ e.2) → Le4 R → runP R (M.map some) = some R' → Le4 R'
  | [], R, R', _, h, e => by cases e; exact h
  | (a, b) :: M, R, R', hM, h, e => by
    have e : (stepL R (some (a, b))).bind (fun R1 => runP R1 (M.map some)) = some R' := e
    cases hs : stepL R (some (a, b)) with
    | none => rw [hs] at e; cases e
    | some R1 =>
      rw [hs] at e
      obtain ⟨h1, h2, h3⟩ := hM _ List.mem_cons_self
      have h1 : 0 ≤ a := h1
      have h2 : 0 ≤ b := h2
      have h3 : a ≠ b := h3
      exact le4_run M R1 R' (fun e he => hM e (List.mem_cons_of_mem _ he)) (h.step (fun x y z => by cases z; omega) hs) e
theorem le4_empty (n : Nat) : Le4 (emptyR n) := fun row hr => by
  unfold emptyR at hr
  rw [(List.mem_replicate.mp hr).2]
  exact Nat.zero_le _
/-- good modes, good links -/
theorem net_good {ms : List Int} {zs : List V} {L M : List (Int × Int)} (hs : H s = none) (hd : H dx = none) (hx : SqX K H x (some (ms.map V.int))) (m0 : ms ≠ []) (ml : ms.length < 1000) (mb : ∀ m ∈ ms, 0 ≤ m ∧ m < 4) (hz : SqX K H z (some zs))
    (hp : Paired (LkIs K H ms.length) zs (M.map some)) (g : Good ms.length 4 L) (srt : L.Pairwise lexlt) (pm : (M.map norm).Perm L)
    (hQ : ∀ H' R', Same H H' → NetAt C H' s ms R' L → Q .non H') : spNet K C CI [.ref s, x, z] (made H C s dx) Q E := by
  have S : Same H (made H C s dx) := made_same hs hd
  obtain ⟨R0, hR0, _⟩ := runs_nb (runs_of g pm) M.length (Nat.le_refl _)
  rw [List.take_length] at hR0
  have rs := runs_of g pm
  have hM : ∀ e ∈ M, 0 ≤ e.1 ∧ 0 ≤ e.2 ∧ e.1 ≠ e.2 := fun e he => by
    obtain ⟨i, hi⟩ := List.getElem?_of_mem he
    obtain ⟨a, _, b, _, c, _⟩ := rs i e hi
    exact ⟨a, b, c⟩
  refine ⟨s, dx, x, z, _, rfl, upd_same, sqx_same hx S, fun e => (by cases e), fun e => ?_, fun xs e h0 => ?_⟩
  · exact absurd (List.map_eq_nil_iff.mp (Option.some.inj e)) m0
  · cases e
    refine ⟨ms.map some, kin_all K _ ms, fun j o' h1 _ h3 => ?_, fun _ => ⟨by rw [List.length_map]; exact ml, ms, rfl, _, sqx_same hz S, fun e => (by cases e), fun zs' e => ?_⟩⟩
    · rw [List.getElem?_map] at h1
      obtain ⟨m, hm, rfl⟩ := Option.map_eq_some_iff.mp h1
      obtain ⟨a, b⟩ := mb m (List.mem_of_getElem? hm)
      rw [bel4_of a b] at h3; cases h3
    · cases e
      refine ⟨M.map some, paired_mono hp fun _ _ k => k.same S, fun j e R h1 h2 h3 => ?_, fun R hR h4 H' R' ex pr net => ?_⟩
      · have b : BadL ms.length (M.map some) j := ⟨e, R, h1, h2, h3⟩
        rw [b.bad] at hR0; cases hR0
      · rw [edges_back g srt pm hR pr] at net
        exact hQ H' R' (ex_same hs hd ex) net
end
theorem norm_id {L : List (Int × Int)} (h : ∀ e ∈ L, e.1 < e.2) : L.map norm = L := by
  induction L with
  | nil => rfl
  | cons e L ih =>
    rw [List.map_cons, ih fun x hx => h x (List.mem_cons_of_mem _ hx)]
    have := h e List.mem_cons_self
    unfold norm
    rw [if_pos (by omega)]
theorem norm_good {n d : Nat} {L : List (Int × Int)} (g : Good n d L) : (L.map norm).Perm L := by
  rw [norm_id fun e he => (g.rng e he).2.1]
theorem lk_pairs {K : PySem.W.Frag} {H : Hp} {n : Nat} {ps : List Addr} {L : List (Int × Int)} (h : Paired (PairAt H) ps L) (r : ∀ e ∈ L, 0 ≤ e.1 ∧ e.1 < e.2 ∧ e.2 < n) : Paired (LkIs K H n) (ps.map V.ref) (L.map some) := by
  induction h with
  | nil => exact .nil
  | @cons p e ps L a _ ih =>
    obtain ⟨h1, h2, h3⟩ := r e List.mem_cons_self
    exact .cons (.ok (.tup (Tup.of a)) h1 (by omega) (by omega) h3 (by omega)) (ih fun x hx => r x (List.mem_cons_of_mem _ hx))
/-! ### how many links there are -/
theorem split_len {α : Type} (f : α → Bool) : ∀ L : List α, L.length = (L.filter f).length + (L.filter fun x => !f x).length
  | [] => rfl
  | x :: L => by
    have := split_len f L
    rw [List.filter_cons, List.filter_cons]
    by_cases h : f x = true
    · simp [h]; omega
    · simp [h]; omega
theorem fst_len {d : Nat} : ∀ (n : Nat) (L : List (Int × Int)), (∀ e ∈ L, 0 ≤ e.1 ∧ e.1 < n) → (∀ s : Int, (L.filter fun e => decide (e.1 = s)).length ≤ d) → L.length ≤ n * d
  | 0, L, h, _ => by
    cases L with
    | nil => simp
    | cons e L => have := h e List.mem_cons_self; omega
  | n + 1, L, h, hd => by
    rw [split_len (fun e => decide (e.1 = ((n : Nat) : Int))) L]
    have h1 := hd ((n : Nat) : Int)
    have h2 := fst_len n (L.filter fun e => !decide (e.1 = ((n : Nat) : Int))) (fun e he => by
      obtain ⟨a, b⟩ := List.mem_filter.mp he
      have := h e a
      simp at b
      omega) fun s => by
        have : ((L.filter fun e => !decide (e.1 = ((n : Nat) : Int))).filter fun e => decide (e.1 = s)).length ≤ (L.filter fun e => decide (e.1 = s)).length := by
          rw [List.filter_filter]
          have e : (L.filter fun e => decide (e.1 = s) && !decide (e.1 = ((n : Nat) : Int))) = ((L.filter fun e => decide (e.1 = s)).filter fun e => !decide (e.1 = ((n : Nat) : Int))) := by
            rw [List.filter_filter]
            congr 1
            funext e
            exact Bool.and_comm _ _
          rw [e]
          exact List.length_filter_le _ _
        exact Nat.le_trans this (hd s)
    rw [Nat.add_mul]; omega
theorem good_len {n : Nat} {L : List (Int × Int)} (g : Good n 4 L) : L.length ≤ n * 4 :=
  fst_len n L (fun e he => by have := g.rng e he; omega) fun s => by
    refine Nat.le_trans ?_ (g.deg s)
    have e : (L.filter fun e => decide (e.1 = s)) = (L.filter (inc s)).filter fun e => decide (e.1 = s) := by
      rw [List.filter_filter]
      congr 1
      funext e
      unfold inc
      by_cases h : e.1 = s <;> simp [h]
    rw [e]
    exact List.length_filter_le _ _
theorem good_tail {n : Nat} {e : Int × Int} {L : List (Int × Int)} (g : Good n 4 (e :: L)) : Good n 4 L :=
  ⟨fun x hx => g.rng x (List.mem_cons_of_mem _ hx), (List.nodup_cons.mp g.nd).2, fun s => by
    have := g.deg s
    rw [List.filter_cons] at this
    split at this
    · simp only [List.length_cons] at this; omega
    · exact this⟩
theorem net_nl {H H' : Hp} {C n : Addr} {ms : List Int} {R : List (List Int)} {L : List (Int × Int)} (h : NetAt C H n ms R L) (k : ∀ a o, H a = some o → (∀ xs, o ≠ .lst xs) → (∀ ps, o ≠ .tbl ps) → H' a = some o) : NetAt C H' n ms R L := by
  obtain ⟨dx, pm, pn, pl, qs, ps, h1, h2, h3, h4, h5, h6⟩ := h.ob
  have tp : ∀ {a xs}, H a = some (.tup xs) → H' a = some (.tup xs) := fun h => k _ _ h (fun _ e => nomatch e) (fun _ e => nomatch e)
  have tr : ∀ {a xs}, Tup H a xs → Tup H' a xs := fun h => by
    rcases h with h | ⟨o, h⟩
    · exact .inl (tp h)
    · exact .inr ⟨o, k _ _ h (fun xs e => nomatch e) (fun ps e => nomatch e)⟩
  exact ⟨dx, pm, pn, pl, qs, ps, k _ _ h1 (fun xs e => nomatch e) (fun ps e => nomatch e), tr h2, tp h3, paired_mono h4 fun _ _ z => tr z, tp h5, paired_mono h6 fun _ _ z => tp z⟩
theorem nl_upd {H : Hp} {l : Addr} {xs ys : List V} (hl : H l = some (.lst xs)) : ∀ a o, H a = some o → (∀ xs, o ≠ .lst xs) → (∀ ps, o ≠ .tbl ps) → upd H l (.lst ys) a = some o := fun a o h n _ => by
  rw [upd_ne (fun z => by rw [z, hl] at h; exact n _ (Option.some.inj h).symm)]
  exact h
/-! ### the rows of sorted links -/
theorem nb_cons (e : Int × Int) (L : List (Int × Int)) (a : Int) : nb (e :: L) a = (if e.1 = a then [e.2] else if e.2 = a then [e.1] else []) ++ nb L a := by
  have h : nb (e :: L) a = nb [e] a ++ nb L a := nb_append [e] L a
  rw [h]
  obtain ⟨x, y⟩ := e
  rw [nb_one]
/-- ascending links tell ascending neighbours -/
theorem nb_asc : ∀ {L : List (Int × Int)}, L.Pairwise lexlt → (∀ e ∈ L, e.1 < e.2) → ∀ a : Int, (nb L a).Pairwise (· < ·)
  | [], _, _, a => .nil
  | e :: L, h, r, a => by
    obtain ⟨h1, h2⟩ := List.pairwise_cons.mp h
    have ih := nb_asc h2 (fun x hx => r x (List.mem_cons_of_mem _ hx)) a
    rw [nb_cons]
    have re := r e List.mem_cons_self
    have later : ∀ b ∈ nb L a, ∀ c, (e.1 = a ∧ c = e.2 ∨ e.2 = a ∧ c = e.1) → c < b := fun b hb c hc => by
      rcases mem_nb hb with m | m
      · have l := h1 _ m
        have q := r _ (List.mem_cons_of_mem _ m)
        unfold lexlt at l
        simp only at l q
        rcases hc with ⟨u, v⟩ | ⟨u, v⟩ <;> omega
      · have l := h1 _ m
        have q := r _ (List.mem_cons_of_mem _ m)
        unfold lexlt at l
        simp only at l q
        rcases hc with ⟨u, v⟩ | ⟨u, v⟩ <;> omega
    by_cases c1 : e.1 = a
    · rw [if_pos c1]
      exact List.pairwise_cons.mpr ⟨fun b hb => later b hb e.2 (.inl ⟨c1, rfl⟩), ih⟩
    · rw [if_neg c1]
      by_cases c2 : e.2 = a
      · rw [if_pos c2]
        exact List.pairwise_cons.mpr ⟨fun b hb => later b hb e.1 (.inr ⟨c2, rfl⟩), ih⟩
      · rw [if_neg c2]
        exact ih
theorem lt_perm_uniq {l m : List Int} (p : l.Perm m) (h : l.Pairwise (· ≤ ·)) (h' : m.Pairwise (· < ·)) : l = m :=
  p.eq_of_pairwise (fun a b _ _ h1 h2 => Int.le_antisymm h1 h2) h (h'.imp fun x => Int.le_of_lt x)
def rowsL (n : Nat) (L : List (Int × Int)) : List (List Int) := (List.range n).map fun i => nb L ((i : Nat) : Int)
theorem rowsL_get {n i : Nat} {L : List (Int × Int)} (h : i < n) : (rowsL n L)[i]? = some (nb L ((i : Nat) : Int)) := by
  unfold rowsL
  rw [List.getElem?_map, List.getElem?_range h]; rfl
theorem rowsL_len (n : Nat) (L : List (Int × Int)) : (rowsL n L).length = n := by unfold rowsL; simp
theorem norm_cases (x y : Int) : norm (x, y) = (x, y) ∨ norm (x, y) = (y, x) := by
  unfold norm
  split
  · exact .inl rfl
  · exact .inr rfl
theorem nb_norm_iff {M L : List (Int × Int)} (h : (M.map norm).Perm L) {a b : Int} (ne : a ≠ b) (rL : ∀ e ∈ L, e.1 < e.2) : b ∈ nb M a ↔ b ∈ nb L a := by
  constructor
  · intro z
    have : norm (a, b) ∈ L ∨ norm (b, a) ∈ L := by
      rcases mem_nb z with m | m
      · exact .inl (h.mem_iff.mp (List.mem_map.mpr ⟨_, m, rfl⟩))
      · exact .inr (h.mem_iff.mp (List.mem_map.mpr ⟨_, m, rfl⟩))
    refine nb_mem ne ?_
    rcases this with m | m
    · rcases norm_cases a b with e | e <;> rw [e] at m
      · exact .inl m
      · exact .inr m
    · rcases norm_cases b a with e | e <;> rw [e] at m
      · exact .inr m
      · exact .inl m
  · intro z
    refine nb_mem ne ?_
    rcases mem_nb z with m | m
    · obtain ⟨⟨x, y⟩, hm, e⟩ := List.mem_map.mp (h.mem_iff.mpr m)
      rcases norm_cases x y with q | q <;> rw [q] at e <;> cases e
      · exact .inl hm
      · exact .inr hm
    · obtain ⟨⟨x, y⟩, hm, e⟩ := List.mem_map.mp (h.mem_iff.mpr m)
      rcases norm_cases x y with q | q <;> rw [q] at e <;> cases e
      · exact .inr hm
      · exact .inl hm
theorem nb_irr {M : List (Int × Int)} (h : ∀ e ∈ M, e.1 ≠ e.2) (a : Int) : a ∉ nb M a := fun z => by
  rcases mem_nb z with m | m <;> exact h _ m rfl
theorem rows_back {n : Nat} {L M : List (Int × Int)} {R R' : List (List Int)} (g : Good n 4 L) (s : L.Pairwise lexlt) (h : (M.map norm).Perm L) (hR : runP (emptyR n) (M.map some) = some R)
    (p : Paired (fun (a b : List Int) => a.Perm b ∧ a.Pairwise (· ≤ ·)) R' R) : R' = rowsL n L := by
  have rs := runs_of g h
  obtain ⟨R0, hR0, hl, hr⟩ := runs_nb rs M.length (Nat.le_refl _)
  rw [List.take_length] at hR0 hr
  rw [hR] at hR0
  cases hR0
  have sym : ∀ i e, M[i]? = some e → e.1 ≠ e.2 ∧ e.2 ∉ nb (M.take i) e.1 ∧ e.1 ∉ nb (M.take i) e.2 := fun i e he => by
    obtain ⟨_, _, _, _, ne, h1, _⟩ := rs i e he
    refine ⟨ne, h1, fun z => h1 ?_⟩
    exact nb_mem ne ((mem_nb z).symm)
  have irrM : ∀ e ∈ M, e.1 ≠ e.2 := fun e he => by
    obtain ⟨i, hi⟩ := List.getElem?_of_mem he
    exact (sym i e hi).1
  have rL : ∀ e ∈ L, e.1 < e.2 := fun e he => (g.rng e he).2.1
  have lenR : R'.length = R.length := paired_len p
  refine List.ext_getElem? fun i => ?_
  by_cases hi : i < n
  · rw [rowsL_get hi]
    have hi' : i < R'.length := by omega
    rw [List.getElem?_eq_getElem hi']
    congr 1
    obtain ⟨row, e1, pm, srt⟩ := paired_get p (List.getElem?_eq_getElem hi')
    have er : row = nb M ((i : Nat) : Int) := by
      have q := hr ((i : Nat) : Int) (by omega) (by omega)
      unfold rowOf at q
      rw [List.getD_eq_getElem?_getD] at q
      have e1' : R[((i : Nat) : Int).toNat]? = some row := by simpa using e1
      rw [e1'] at q
      exact q
    rw [er] at pm
    have asc := nb_asc s rL ((i : Nat) : Int)
    refine lt_perm_uniq (pm.trans ?_) srt asc
    refine (List.perm_ext_iff_of_nodup (nb_nodup sym) (asc.imp fun z => Int.ne_of_lt z)).mpr fun b => ?_
    by_cases hb : ((i : Nat) : Int) = b
    · subst hb
      exact ⟨fun z => absurd z (nb_irr irrM _), fun z => absurd z (nb_irr (fun e he => Int.ne_of_lt (rL e he)) _)⟩
    · exact nb_norm_iff h hb rL
  · rw [List.getElem?_eq_none (by omega), List.getElem?_eq_none (by rw [rowsL_len]; omega)]
section
variable {K : PySem.W.Frag} {C CI s dx : Addr} {x z : V} {H : Hp} {Q : VK} {E : XK}
/-- good modes, good links: the rows told -/
theorem net_goodR {ms : List Int} {zs : List V} {L M : List (Int × Int)} (hs : H s = none) (hd : H dx = none) (hx : SqX K H x (some (ms.map V.int))) (m0 : ms ≠ []) (ml : ms.length < 1000) (mb : ∀ m ∈ ms, 0 ≤ m ∧ m < 4) (hz : SqX K H z (some zs))
    (hp : Paired (LkIs K H ms.length) zs (M.map some)) (g : Good ms.length 4 L) (srt : L.Pairwise lexlt) (pm : (M.map norm).Perm L)
    (hQ : ∀ H', Same H H' → NetAt C H' s ms (rowsL ms.length L) L → Q .non H') : spNet K C CI [.ref s, x, z] (made H C s dx) Q E := by
  have S : Same H (made H C s dx) := made_same hs hd
  obtain ⟨R0, hR0, _⟩ := runs_nb (runs_of g pm) M.length (Nat.le_refl _)
  rw [List.take_length] at hR0
  have rs := runs_of g pm
  refine ⟨s, dx, x, z, _, rfl, upd_same, sqx_same hx S, fun e => (by cases e), fun e => ?_, fun xs e h0 => ?_⟩
  · exact absurd (List.map_eq_nil_iff.mp (Option.some.inj e)) m0
  · cases e
    refine ⟨ms.map some, kin_all K _ ms, fun j o' h1 _ h3 => ?_, fun _ => ⟨by rw [List.length_map]; exact ml, ms, rfl, _, sqx_same hz S, fun e => (by cases e), fun zs' e => ?_⟩⟩
    · rw [List.getElem?_map] at h1
      obtain ⟨m, hm, rfl⟩ := Option.map_eq_some_iff.mp h1
      obtain ⟨a, b⟩ := mb m (List.mem_of_getElem? hm)
      rw [bel4_of a b] at h3; cases h3
    · cases e
      refine ⟨M.map some, paired_mono hp fun _ _ k => k.same S, fun j e R h1 h2 h3 => ?_, fun R hR h4 H' R' ex pr net => ?_⟩
      · have b : BadL ms.length (M.map some) j := ⟨e, R, h1, h2, h3⟩
        rw [b.bad] at hR0; cases hR0
      · rw [edges_back g srt pm hR pr, rows_back g srt pm hR pr] at net
        exact hQ H' (ex_same hs hd ex) net
end
theorem fk_made {K : PySem.W.Frag} {x q : Str} {st : Stmt} {f : Addr} {fd : FuncData} {c a b : Str} (F : Fun K x q st f fd)
    (h : ∀ (kV doc pm : Value) (an : Option Addr) (cdv ct : Value) (t u v : Value), bindArgs (PySem.W.fnOf x q (defArgs st) (defBody st) (defScope st) .none kV doc pm an cdv ct) ⟨[t], [(b, v), (a, u)]⟩ = pure [(c, t), (a, u), (b, v)]) :
    KBn K fd [c, a, b] 1 [b, a] (fun us ws => us ++ ws.reverse) (fun vs zs => vs ++ zs.reverse) := by
  obtain ⟨oc, od, kV, doc, pm, an, cdv, ct, osl, rfl, lk, hcd⟩ := F.ex
  refine ⟨fun s us ws _ h0 h2 => ?_, fun {vs us zs ws} r1 r2 => ?_⟩
  · match us, ws, h0, h2 with
    | [t], [v, u], _, _ => exact .of_eq (h kV doc pm an cdv ct t u v)
  · refine r1.append ?_
    clear r1
    induction r2 with
    | nil => exact .nil
    | cons q _ ih =>
      rw [List.reverse_cons, List.reverse_cons]
      exact ih.append (.cons q .nil)
theorem kb_Network {K : PySem.W.Frag} {mg : Str → Option Value} (T : TX K mg) : KBn K T.d_Network_init ["self", "modes", "links"] 1 ["links", "modes"] (fun us ws => us ++ ws.reverse) (fun vs zs => vs ++ zs.reverse) :=
  fk_made T.F_Network_init fun _ _ _ _ _ _ _ _ _ => rfl
theorem rd_make {C : Addr} {sp : Sp} {dvs : List V} {E : XK} {t : TA} {σ : L2.St} {H : Hp} {Q : VK} (h : t σ H fun vs H1 => ∀ x dx, H1 x = none → H1 dx = none → dx ≠ x → sp (.ref x :: (vs ++ dvs)) (made H1 C x dx) (fun v H2 => v = .non ∧ Q (.ref x) H2) E) : tMake C sp dvs E t σ H Q := h
theorem rd_makeK {C : Addr} {n m : Nat} {sp : Sp} {gV : List V → List V → List V} {E : XK} {t tk : TA} {σ : L2.St} {H : Hp} {Q : VK} (h : t σ H fun vs H1 => tk σ H1 fun zs H2 => vs.length = n ∧ zs.length = m ∧ ∀ x dx, H2 x = none → H2 dx = none → dx ≠ x →
    sp (gV (.ref x :: vs) zs) (made H2 C x dx) (fun v H3 => v = .non ∧ Q (.ref x) H3) E) : tMakeK C n m sp gV E t tk σ H Q := h
end K71

namespace K71
open PySem PySem.Spec PyProof.Rows L2 KX
local macro_rules | `(tactic| walk_at "rd1") => `(tactic| first
  | with_reducible refine rd_seq ?_
  | with_reducible refine rd_for ?_
  | with_reducible refine rd_lc ?_
  | with_reducible refine rd_asg ?_
  | ((with_reducible refine' rd_var ?rdv ?_); (case rdv => exact rfl))
  | with_reducible refine rd_c ?_
  | with_reducible refine rd_op ?_
  | with_reducible refine rd_un ?_
  | with_reducible refine rd_cons ?_
  | with_reducible refine rd_nil ?_
  | with_reducible refine rd_call ?_
  | with_reducible refine rd_cb ?_
  | with_reducible refine rd_tB ?_
  | with_reducible refine rd_test ?_
  | with_reducible refine rd_bl ?_
  | with_reducible refine rd_rI0 ?_
  | with_reducible refine rd_eqI ?_
  | with_reducible refine rd_neI ?_
  | with_reducible refine rd_rU ?_
  | with_reducible refine rd_name ?_
  | with_reducible refine rd_ifs ?_
  | with_reducible refine rd_and ?_
  | with_reducible refine rd_or ?_
  | with_reducible refine rd_not ?_
  | with_reducible refine rd_yes ?_
  | with_reducible refine rd_andV ?_
  | with_reducible refine rd_orV ?_
  | with_reducible refine rd_notV ?_
  | with_reducible refine rd_if ?_
  | with_reducible refine rd_isN ?_
  | with_reducible refine rd_iT ?_
  | with_reducible refine rd_iF ?_
  | with_reducible refine rd_ret ?_
  | with_reducible refine rd_retN ?_
  | with_reducible refine rd_drop ?_
  | with_reducible refine rd_next ?_
  | with_reducible refine rd_cont ?_
  | with_reducible refine rd_brk ?_
  | with_reducible refine rd_nx ?_
  | with_reducible refine rd_rt ?_
  | with_reducible refine rd_ct ?_
  | with_reducible refine rd_bk ?_
  | with_reducible refine rd_par ?_
  | with_reducible refine rd_par3 ?_
  | with_reducible refine rd_par2 ?_
  | with_reducible refine rd_par33 ?_
  | with_reducible refine rd_gcons ?_
  | with_reducible refine rd_gnil ?_
  | with_reducible refine rd_sub ?_
  | with_reducible refine rd_tup ?_
  | with_reducible refine rd_lst ?_
  | ((with_reducible refine rd_tupT ?hl ?_); (case hl => exact Nat.le_of_ble_eq_true rfl))
  | ((with_reducible refine rd_lstT ?hl ?_); (case hl => exact Nat.le_of_ble_eq_true rfl))
  | with_reducible refine rd_bm ?_
  | with_reducible refine rd_bm0 ?_
  | with_reducible refine rd_sl ?_
  | with_reducible refine rd_noP ?_
  | with_reducible refine rd_part ?_
  | with_reducible refine rd_int ?_
  | with_reducible refine rd_int1 ?_
  | with_reducible refine rd_fld ?_
  | with_reducible refine rd_then ?_
  | with_reducible refine rd_raise ?_
  | with_reducible refine rd_one ?_
  | with_reducible refine rd_sfld ?_
  | with_reducible refine rd_ilist ?_
  | with_reducible refine rd_itup ?_
  | with_reducible refine rd_rng1 ?_
  | with_reducible refine rd_enum ?_
  | with_reducible refine rd_enumT ?_)
local macro_rules | `(tactic| walk_at "rd") => `(tactic| repeat (walk_at "rd1"))
/-! ### what sites see -/
def sortI (l : List Int) : List Int := l.mergeSort fun a b => decide (a ≤ b)
theorem sortI_perm (l : List Int) : (sortI l).Perm l := List.mergeSort_perm _ _
theorem sortI_srt (l : List Int) : (sortI l).Pairwise (· ≤ ·) := by
  have h := List.pairwise_mergeSort (le := fun a b : Int => decide (a ≤ b)) (fun a b c h1 h2 => by simp at *; omega) (fun a b => by simp; omega) l
  exact h.imp fun z => by simpa using z
theorem srt_uniq {l l' : List Int} (p : l.Perm l') (h : l.Pairwise (· ≤ ·)) (h' : l'.Pairwise (· ≤ ·)) : l = l' :=
  p.eq_of_pairwise (fun a b _ _ h1 h2 => Int.le_antisymm h1 h2) h h'
theorem sortI_of {l m : List Int} (p : m.Perm l) (h : m.Pairwise (· ≤ ·)) : m = sortI l := srt_uniq (p.trans (sortI_perm l).symm) h (sortI_srt l)
theorem sortI_congr {l m : List Int} (p : l.Perm m) : sortI l = sortI m := sortI_of ((sortI_perm l).trans p) (sortI_srt l)
def modeAt (ms : List Int) (i : Int) : Int := ms.getD i.toNat 0
theorem modeAt_get {ms : List Int} {i : Int} (h0 : 0 ≤ i) (h1 : i < ms.length) : atI (ms.map V.int) i = some (.int (modeAt ms i)) := by
  obtain ⟨n, rfl⟩ := Int.eq_ofNat_of_zero_le h0
  have hn : n < ms.length := by omega
  refine atI_nat ?_
  unfold modeAt
  rw [List.getElem?_map, List.getElem?_eq_getElem hn, List.getD_eq_getElem?_getD]
  have : ((n : Nat) : Int).toNat = n := by omega
  rw [this, List.getElem?_eq_getElem hn]; rfl
theorem modeAt_mem {ms : List Int} {i : Int} (h0 : 0 ≤ i) (h1 : i < ms.length) : modeAt ms i ∈ ms := by
  unfold modeAt
  rw [List.getD_eq_getElem?_getD, List.getElem?_eq_getElem (by omega)]
  exact List.getElem_mem (by omega)
def viewOf (ms : List Int) (L : List (Int × Int)) (i : Int) : Int × List Int := (modeAt ms i, sortI ((nb L i).map (modeAt ms)))
def ViewAt (H : Hp) (v : Addr) (w : Int × List Int) : Prop := ∃ r, H v = some (.tup [.int w.1, .ref r]) ∧ H r = some (.tup (w.2.map V.int))
theorem ViewAt.same {H H' : Hp} {v : Addr} {w : Int × List Int} (h : ViewAt H v w) (s : Same H H') : ViewAt H' v w := by
  obtain ⟨r, h1, h2⟩ := h
  exact ⟨r, s _ _ h1, s _ _ h2⟩
def viewsOf (ms : List Int) (L : List (Int × Int)) : List (Int × List Int) := (List.range ms.length).map fun i => viewOf ms L ((i : Nat) : Int)
theorem nb_rng {n d : Nat} {L : List (Int × Int)} (g : Good n d L) {a b : Int} (h : b ∈ nb L a) : 0 ≤ b ∧ b < n := by
  rcases mem_nb h with m | m <;> (have := g.rng _ m; simp only at this; omega)
theorem nb_deg {n d : Nat} {L : List (Int × Int)} (g : Good n d L) (a : Int) : (nb L a).length ≤ d := by rw [nb_len]; exact g.deg a
/-- the row of a site -/
theorem NetAt.row {C : Addr} {H : Hp} {p : Addr} {ms : List Int} {L : List (Int × Int)} (h : NetAt C H p ms (rowsL ms.length L) L) {i : Int} (h0 : 0 ≤ i) (h1 : i < ms.length) :
    ∃ (dx pm pn pl : Addr) (qs : List Addr) (q : Addr), H p = some (.ins C dx (putF "links" (.ref pl) (putF "_near" (.ref pn) (putF "modes" (.ref pm) [])))) ∧ Tup H pm (ms.map V.int) ∧ Tup H pn (qs.map V.ref) ∧ atI (qs.map V.ref) i = some (.ref q) ∧ RowT H q (nb L i) := by
  obtain ⟨dx, pm, pn, pl, qs, ps, hp, hm, hn, hqs, _, _⟩ := h.ob
  obtain ⟨n, rfl⟩ := Int.eq_ofNat_of_zero_le h0
  have hn' : n < ms.length := by omega
  have lq : qs.length = ms.length := by rw [paired_len hqs, rowsL_len]
  have hq : qs[n]? = some qs[n] := List.getElem?_eq_getElem (by omega)
  obtain ⟨row, e, hrow⟩ := paired_get hqs hq
  rw [rowsL_get hn'] at e
  cases e
  exact ⟨dx, pm, pn, pl, qs, qs[n], hp, hm, Tup.of hn, atI_nat (by rw [List.getElem?_map, hq]; rfl), hrow⟩
theorem look_none {a b c : V} {m : Str} (h1 : ¬ m = "links") (h2 : ¬ m = "_near") (h3 : ¬ m = "modes") : (putF "links" a (putF "_near" b (putF "modes" c []))).lookup m = none := by
  rw [lookup_putF, if_neg h1, lookup_putF, if_neg h2, lookup_putF, if_neg h3]
  rfl
theorem rd_meth {C : Addr} {m : Str} {sp : L2.Sp} {dvs : List V} {E : XK} {ta : TE} {t : TA} {σ : L2.St} {H : Hp} {Q : VK} (h : ta σ H fun x H1 => ∃ a dx fs, x = .ref a ∧ H1 a = some (.ins C dx fs) ∧ fs.lookup m = none ∧ t σ H1 fun vs H2 => sp (x :: (vs ++ dvs)) H2 Q E) : tMeth C m sp dvs E ta t σ H Q := h
theorem rd_netm {C : Addr} {m : Str} {Z : Prop} {H : Hp} {p : Addr} {ms : List Int} {R : List (List Int)} {L : List (Int × Int)} (hn : NetAt C H p ms R L) (h1 : ¬ m = "links") (h2 : ¬ m = "_near") (h3 : ¬ m = "modes")
    (h : Z) : ∃ a dx fs, V.ref p = .ref a ∧ H a = some (.ins C dx fs) ∧ fs.lookup m = none ∧ Z := by
  obtain ⟨dx, pm, pn, pl, qs, ps, hp, _⟩ := hn.ob
  exact ⟨p, dx, _, rfl, hp, look_none h1 h2 h3, h⟩
def spNear (K : PySem.W.Frag) (C CQ : Addr) : L2.Sp := fun vs H Q E => ∃ (p : Addr) (x : V) (ms : List Int) (L : List (Int × Int)) (o : Option Int), vs = [.ref p, x] ∧ NetAt C H p ms (rowsL ms.length L) L ∧ Kin K H x o ∧
  (belB o ms.length = false → ErrAt CQ E H 0) ∧ (belB o ms.length = true → ∃ i, x = .int i ∧ ∀ q, RowT H q (nb L i) → Q (.ref q) H)
def spView (K : PySem.W.Frag) (C CQ : Addr) : L2.Sp := fun vs H Q E => ∃ (p : Addr) (x : V) (ms : List Int) (L : List (Int × Int)) (o : Option Int), vs = [.ref p, x] ∧ NetAt C H p ms (rowsL ms.length L) L ∧ Good ms.length 4 L ∧ (∀ m ∈ ms, 0 ≤ m ∧ m < 4) ∧ Kin K H x o ∧
  (belB o ms.length = false → ErrAt CQ E H 0) ∧ (belB o ms.length = true → ∃ i, x = .int i ∧ ∀ H' v, Same H H' → ViewAt H' v (viewOf ms L i) → Q (.ref v) H')
def spSViews (K : PySem.W.Frag) (C : Addr) : L2.Sp := fun vs H Q E => ∃ (p : Addr) (ms : List Int) (L : List (Int × Int)), vs = [.ref p] ∧ NetAt C H p ms (rowsL ms.length L) L ∧ Good ms.length 4 L ∧ (∀ m ∈ ms, 0 ≤ m ∧ m < 4) ∧ ms.length < 1000 ∧
  ∀ H' t vs, Same H H' → H' t = some (.tup (vs.map V.ref)) → Paired (ViewAt H') vs (viewsOf ms L) → Q (.ref t) H'
theorem belB_iff {i : Int} {n : Nat} : belB (some i) n = true ↔ 0 ≤ i ∧ i < n := by
  show (decide (0 ≤ i) && decide (i < (n : Int))) = true ↔ _
  simp
theorem kin_bel {K : PySem.W.Frag} {H : Hp} {x : V} {o : Option Int} {n : Nat} (k : Kin K H x o) (h : belB o n = true) : ∃ i, x = .int i ∧ 0 ≤ i ∧ i < n := by
  cases k with
  | int i => exact ⟨i, rfl, belB_iff.mp h⟩
  | oth t h1 h2 h3 => cases h
section
variable {P : Program} {w : World} {K : PySem.W.Frag} {mg : Str → Option Value} {base : Heap} (T : TX K mg)
theorem G_Network_neighbours : FnOk P w K mg base (L2.CX P w) 5 T.f_Network_neighbours T.d_Network_neighbours ["self", "at"] (spNear K T.c_Network T.c_InvalidQuestion) := by
  refine T.F_Network_neighbours.okX sc_Network_neighbours (fun vs H Q E h => ?_) fun cdv A outer s H vs Q E hr h => ⟨_, (pss_cons (ps_if (pt_not (pt_val (pe_call (G_is_below T) (hr.mono (by decide)) (by rfl) T.m_is_below T.F_is_below.kp T.b_is_below .nil pass0 (by exact (pa_cons (pv 1) (pa_cons (pe_callB (cr_lenK (K := K)) (by rfl) T.n_len (by decide +kernel) (by exact (pa_cons (pe_fldK (K := K) (pv 0)) pa_nil))) pa_nil)))))) (pss_one (ps_raiseErrZ rfl T.E_InvalidQuestion hr (takes_of rfl rfl rfl rfl) (by exact (pa_cons pe_int pa_nil)))) pss_nil) (pss_one (ps_ret (pe_ix (ix_tupK (K := K)) (pe_fldK (K := K) (pv 0)) (pv 1) (fun _ _ => rfl))))), ?_⟩
  · obtain ⟨p, x, ms, L, o, rfl, _⟩ := h
    rfl
  · obtain ⟨p, x, ms, L, o, rfl, hN, k, hE, hQ⟩ := h
    obtain ⟨dx, pm, pn, pl, qs, ps, hp, hm, _⟩ := hN.ob
    walk_at "rd"
    refine ⟨p, _, dx, _, _, rfl, hp, T.C_Network, T.A_Network_modes, look_modes, ?_⟩
    walk_at "rd"
    refine rd_lenTup hm ?_
    rw [List.length_map]
    walk_at "rd"
    refine ⟨_, _, _, rfl, k, ?_⟩
    walk_at "rd"
    cases hb : belB o ms.length with
    | false =>
      refine rd_iT ?_
      walk_at "rd"
      exact fun d hd => hE hb H d (Same.refl H) hd
    | true =>
      refine rd_iF ?_
      walk_at "rd"
      obtain ⟨i, rfl, hQ2⟩ := hQ hb
      obtain ⟨i', e, i0, i1⟩ := kin_bel k hb
      cases e
      obtain ⟨dx, pm, pn, pl, qs, q, hp, hm, hn, hq, hrow⟩ := hN.row i0 i1
      refine ⟨p, _, dx, _, _, rfl, hp, T.C_Network, T.A_Network__near, look_near, ?_⟩
      walk_at "rd"
      refine rd_ixT hn hq ?_
      exact hQ2 q hrow
theorem G_Network_view : FnOk P w K mg base (L2.CX P w) 7 T.f_Network_view T.d_Network_view ["self", "at"] (spView K T.c_Network T.c_InvalidQuestion) := by
  refine T.F_Network_view.okX sc_Network_view (fun vs H Q E h => ?_) fun cdv A outer s H vs Q E hr h => ⟨_, (pss_cons (ps_if (pt_not (pt_val (pe_call (G_is_below T) (hr.mono (by decide)) (by rfl) T.m_is_below T.F_is_below.kp T.b_is_below .nil pass0 (by exact (pa_cons (pv 1) (pa_cons (pe_callB (cr_lenK (K := K)) (by rfl) T.n_len (by decide +kernel) (by exact (pa_cons (pe_fldK (K := K) (pv 0)) pa_nil))) pa_nil)))))) (pss_one (ps_raiseErrZ rfl T.E_InvalidQuestion hr (takes_of rfl rfl rfl rfl) (by exact (pa_cons pe_int pa_nil)))) pss_nil) (pss_one (ps_ret (pe_call (G_made_view T) (hr.mono (by decide)) (by rfl) T.m_made_view T.F_made_view.kp T.b_made_view .nil (passes_call (takes_of rfl rfl rfl rfl) fun _ _ _ _ z => z) (by exact (pa_cons (pe_ix (ix_tupK (K := K)) (pe_fldK (K := K) (pv 0)) (pv 1) (fun _ _ => rfl)) (pa_cons (by exact (pe_lc (own := [("other", 2)]) (by rfl) sc_Network_view.nd (pi_tupK (K := K) (pe_ix (ix_tupK (K := K)) (pe_fldK (K := K) (pv 0)) (pv 1) (fun _ _ => rfl))) (blkOk_by (own := [("other", 2)]) (N := N_Network_view) (sc := defScope s_Network_view) (by decide +kernel)) (fun _ _ _ _ _ => (pg_name (i := 2) sc_Network_view.nd rfl (.inl rfl))) (fun _ _ _ _ _ => pts_nil) (fun _ _ _ _ _ => (pe_ix (ix_tupK (K := K)) (pe_fldK (K := K) (pv 0)) (pv 2) (fun _ _ => rfl))) )) pa_nil))))))), ?_⟩
  · obtain ⟨p, x, ms, L, o, rfl, _⟩ := h
    rfl
  · obtain ⟨p, x, ms, L, o, rfl, hN, g, mb, k, hE, hQ⟩ := h
    obtain ⟨dx, pm, pn, pl, qs, ps, hp, hm, _⟩ := hN.ob
    walk_at "rd"
    refine ⟨p, _, dx, _, _, rfl, hp, T.C_Network, T.A_Network_modes, look_modes, ?_⟩
    walk_at "rd"
    refine rd_lenTup hm ?_
    rw [List.length_map]
    walk_at "rd"
    refine ⟨_, _, _, rfl, k, ?_⟩
    walk_at "rd"
    cases hb : belB o ms.length with
    | false =>
      refine rd_iT ?_
      walk_at "rd"
      exact fun d hd => hE hb H d (Same.refl H) hd
    | true =>
      refine rd_iF ?_
      walk_at "rd"
      obtain ⟨i, rfl, hQ2⟩ := hQ hb
      obtain ⟨i', e, i0, i1⟩ := kin_bel k hb
      cases e
      obtain ⟨dx, pm, pn, pl, qs, q, hp, hm, hn, hq, hrow⟩ := hN.row i0 i1
      refine ⟨p, _, dx, _, _, rfl, hp, T.C_Network, T.A_Network_modes, look_modes, ?_⟩
      walk_at "rd"
      refine rd_ixT hm (modeAt_get i0 i1) ?_
      walk_at "rd"
      refine ⟨p, _, dx, _, _, rfl, hp, T.C_Network, T.A_Network__near, look_near, ?_⟩
      walk_at "rd"
      refine rd_ixT hn hq ?_
      refine ⟨q, rfl, ⟨_, hrow.sq⟩, fun D hD => ?_⟩
      have dg := nb_deg g i
      refine lcv_tup (xs := (nb L i).map V.int) (((nb L i).map (modeAt ms)).map V.int) hrow (by simp) (by simp; omega) hD (fun j y z H1 hy hz S1 R hR => ?_) (fun H1 S1 hD1 => ?_)
      · rw [List.getElem?_map] at hy
        obtain ⟨b, hb', rfl⟩ := Option.map_eq_some_iff.mp hy
        rw [List.getElem?_map, List.getElem?_map, hb'] at hz
        cases hz
        obtain ⟨b0, b1⟩ := nb_rng g (List.mem_of_getElem? hb')
        walk_at "rd"
        refine ⟨rfl, ?_⟩
        walk_at "rd"
        refine ⟨p, _, dx, _, _, rfl, S1 _ _ hp, T.C_Network, T.A_Network_modes, look_modes, ?_⟩
        walk_at "rd"
        exact rd_ixT (hm.same S1) (modeAt_get b0 b1) (hR H1 (Same.refl _))
      · walk_at "rd"
        have all : (((nb L i).map (modeAt ms)).map some).all bel4 = true := by
          refine List.all_eq_true.mpr fun o ho => ?_
          obtain ⟨m, hm', rfl⟩ := List.mem_map.mp ho
          obtain ⟨b, hb', rfl⟩ := List.mem_map.mp hm'
          obtain ⟨b0, b1⟩ := nb_rng g hb'
          obtain ⟨c0, c1⟩ := mb _ (modeAt_mem b0 b1)
          exact bel4_of c0 c1
        have nbi : NbIs K H1 (.ref D) true := by
          have z := NbIs.all (K := K) (SqX.lst hD1) (kin_all K H1 ((nb L i).map (modeAt ms))) (by simp; omega)
          rwa [all] at z
        obtain ⟨c0, c1⟩ := mb _ (modeAt_mem i0 i1)
        have b4 : (bel4 (some (modeAt ms i)) && true) = true := by rw [bel4_of c0 c1]; rfl
        refine ⟨_, _, some (modeAt ms i), true, rfl, .int _, nbi, fun z => (by rw [b4] at z; cases z), fun _ => ⟨_, (nb L i).map (modeAt ms), rfl, .lst hD1, by simp; omega, fun ns' r v H2 S2 pm srt hr2 hv2 => ?_⟩⟩
        refine hQ2 H2 v (S1.trans S2) ⟨r, hv2, ?_⟩
        rw [hr2, sortI_of pm srt]
        rfl
end
end K71

namespace K71
open PySem PySem.Spec PyProof.Rows L2 KX
/-! ### what stays -/
structure Kp (p q : Addr) (H H' : Hp) : Prop where
  nl : ∀ a o, H a = some o → (∀ xs, o ≠ .lst xs) → (∀ ps, o ≠ .tbl ps) → H' a = some o
  ls : ∀ a xs, a ≠ p → a ≠ q → H a = some (.lst xs) → H' a = some (.lst xs)
theorem Kp.refl {p q : Addr} {H : Hp} : Kp p q H H := ⟨fun _ _ h _ _ => h, fun _ _ _ _ h => h⟩
theorem Kp.trans {p q : Addr} {H H1 H2 : Hp} (a : Kp p q H H1) (b : Kp p q H1 H2) : Kp p q H H2 :=
  ⟨fun c o h n t => b.nl c o (a.nl c o h n t) n t, fun c xs h1 h2 h => b.ls c xs h1 h2 (a.ls c xs h1 h2 h)⟩
theorem Kp.same {p q : Addr} {H H' : Hp} (s : Same H H') : Kp p q H H' := ⟨fun a o h _ _ => s a o h, fun a xs _ _ h => s a _ h⟩
theorem Kp.fix {p q : Addr} {H H' : Hp} (d : Deal H p q) (f : Fix p q H H') : Kp p q H H' := ⟨fun a o h n _ => f.keep d h n, fun a xs h1 h2 h => f a _ h1 h2 h⟩
theorem Kp.tup {p q : Addr} {H H' : Hp} {a : Addr} {xs : List V} (k : Kp p q H H') (h : H a = some (.tup xs)) : H' a = some (.tup xs) :=
  k.nl _ _ h (fun xs e => nomatch e) (fun ps e => nomatch e)
theorem Kp.tupR {p q : Addr} {H H' : Hp} {a : Addr} {xs : List V} (k : Kp p q H H') (h : Tup H a xs) : Tup H' a xs := by
  rcases h with h | ⟨o, h⟩
  · exact .inl (k.tup h)
  · exact .inr ⟨o, k.nl _ _ h (fun xs e => nomatch e) (fun ps e => nomatch e)⟩
theorem Kp.pair {p q : Addr} {H H' : Hp} {a : Addr} {e : Int × Int} (k : Kp p q H H') (h : PairAt H a e) : PairAt H' a e := k.tup h
theorem Kp.pairs {p q : Addr} {H H' : Hp} {ps : List Addr} {L : List (Int × Int)} (k : Kp p q H H') (h : Paired (PairAt H) ps L) : Paired (PairAt H') ps L := paired_mono h fun _ _ z => k.pair z
theorem Kp.net {p q : Addr} {H H' : Hp} {C n : Addr} {ms : List Int} {R : List (List Int)} {L : List (Int × Int)} (k : Kp p q H H') (h : NetAt C H n ms R L) : NetAt C H' n ms R L := by
  obtain ⟨dx, pm, pn, pl, qs, ps, h1, h2, h3, h4, h5, h6⟩ := h.ob
  exact ⟨dx, pm, pn, pl, qs, ps, k.nl _ _ h1 (fun xs e => nomatch e) (fun ps e => nomatch e), k.tupR h2, k.tup h3, paired_mono h4 fun _ _ z => k.tupR z, k.tup h5, k.pairs h6⟩
theorem Kp.put {p q a : Addr} {H0 H4 H : Hp} {o : HO} (k : Kp p q H0 H4) (n : H4 a = none) (k' : Kp p q H0 H) : Kp p q H0 (L2.upd H a o) :=
  ⟨fun b u h h1 h2 => by
    rw [upd_ne (fun z => by have := k.nl b u h h1 h2; rw [z, n] at this; cases this)]
    exact k'.nl b u h h1 h2, fun b xs h1 h2 h => by
    rw [upd_ne (fun z => by have := k.ls b xs h1 h2 h; rw [z, n] at this; cases this)]
    exact k'.ls b xs h1 h2 h⟩
section
variable {X : Cx} {K : PySem.W.Frag} {C f : Addr} {fd : FuncData} {ps : List Str} {sp : L2.Sp} {n : Nat}
theorem op_ownEqK (O : OwnC K C f) (F : FnOk X.prog X.w K X.mg X.base CX0 n f fd ps sp) (hb : Binds K fd ps []) (hr : Room n X.A) (hK : X.K = K := by rfl) : OpR X (compareOp .Eq) (rOwnC K C sp false) := by subst hK; exact op_ownEq O F hb hr
theorem op_ownNeK (O : OwnC K C f) (F : FnOk X.prog X.w K X.mg X.base CX0 n f fd ps sp) (hb : Binds K fd ps []) (hr : Room (n + 1) X.A) (hK : X.K = K := by rfl) : OpR X (compareOp .NotEq) (rOwnC K C sp true) := by subst hK; exact op_ownNe O F hb hr
end
theorem rd_callK {m : Nat} {sp : L2.Sp} {gV : List V → List V → List V} {E : XK} {tk : TA} {σ : L2.St} {H : Hp} {Q : VK} (h : tk σ H fun zs H2 => zs.length = m ∧ sp (gV [] zs) H2 Q E) : KX.tCallK m sp gV E tk σ H Q := h
theorem nf_self {K : PySem.W.Frag} {C : Addr} : PySem.W.notFirst K C (.ref C) = true := by
  unfold PySem.W.notFirst
  simp
theorem rd_ownN {K : PySem.W.Frag} {C s1 s2 : Addr} {neg : Bool} {ms ms' : List Int} {R R' : List (List Int)} {L L' : List (Int × Int)} {H : Hp} {Q : VK} (I : IsCls K C) (h1 : NetAt C H s1 ms R L) (h2 : NetAt C H s2 ms' R' L') (a1 : ms.length < 1000) (b1 : L.length < 1000) (a2 : ms'.length < 1000) (b2 : L'.length < 1000)
    (q : Q (.bl (neg != (decide (ms = ms') && decide (L = L')))) H) : rOwnC K C (spEqN K C) neg (.ref s1) (.ref s2) H Q := by
  obtain ⟨dx, pm, pn, pl, qs, ps, hN, _⟩ := h1.ob
  obtain ⟨dx', pm', pn', pl', qs', ps', hN', _⟩ := h2.ob
  exact ⟨s1, dx, _, .ref C, rfl, hN, I.ty hN', nf_self, s1, .ref s2, ms, R, L, rfl, h1, a1, b1, .inr ⟨s2, ms', R', L', rfl, h2, a2, b2, _, rfl, q⟩⟩
theorem rd_ownT {K : PySem.W.Frag} {C s1 t : Addr} {neg : Bool} {ms : List Int} {R : List (List Int)} {L : List (Int × Int)} {xs : List V} {H : Hp} {Q : VK} (h1 : NetAt C H s1 ms R L) (h2 : Tup H t xs) (a1 : ms.length < 1000) (b1 : L.length < 1000) (nf : PySem.W.notFirst K C (.type "tuple") = true) (kt : PySem.W.kitOne K (.type "tuple") (.ref C) = some false)
    (q : Q (.bl (neg != false)) H) : rOwnC K C (spEqN K C) neg (.ref s1) (.ref t) H Q := by
  obtain ⟨dx, pm, pn, pl, qs, ps, hN, _⟩ := h1.ob
  exact ⟨s1, dx, _, .type "tuple", rfl, hN, h2.ty, nf, s1, .ref t, ms, R, L, rfl, h1, a1, b1, .inl ⟨"tuple", h2.ty, kt, _, rfl, q⟩⟩
/-! ### texts of small data -/
structure Rep (d : PyData) : Prop where
  s : d.showable = true
  n : d.hasDict = false
  h : d.depth ≤ 64
  l : d.shown.length ≤ sizeLine
structure Sm (d : PyData) (w k : Nat) : Prop where
  s : d.showable = true
  n : d.hasDict = false
  l : d.leavesShort 13 = true
  w : d.weight ≤ w
  h : d.depth ≤ k
structure SmA (ds : List PyData) (w k : Nat) : Prop where
  s : PyData.showableAll ds = true
  n : PyData.hasDictAll ds = false
  l : PyData.leavesShortAll 13 ds = true
  w : PyData.weightAll ds ≤ w * ds.length
  h : PyData.depthAll ds ≤ k
theorem Sm.rep {d : PyData} {w k : Nat} (h : Sm d w k) (hw : w ≤ 1000000) (hk : k ≤ 64) : Rep d := by
  refine ⟨h.s, h.n, Nat.le_trans h.h hk, ?_⟩
  have q := PyData.shown_le 13 (by decide) d h.l
  have w' := h.w
  have z : sizeLine = 16777216 := by decide
  omega
theorem sm_int {i : Int} (h0 : 0 ≤ i) (h1 : i < 1000) : Sm (.int i) 11 0 := by
  have hl : i.natAbs.log2 < 10 := PySem.Flt.log2_lt_of (by decide) (by omega : i.natAbs < 2 ^ 10)
  refine ⟨decide_eq_true (by omega), rfl, ?_, ?_, Nat.le_refl _⟩
  · exact decide_eq_true (PyData.shown_int_le (by omega))
  · show (if i == 0 then 0 else i.natAbs.log2 + 1) ≤ 11
    split <;> omega
theorem SmA.nil {w k : Nat} : SmA [] w k := ⟨rfl, rfl, rfl, Nat.zero_le _, Nat.zero_le _⟩
theorem SmA.cons {d : PyData} {ds : List PyData} {w k : Nat} (a : Sm d w k) (b : SmA ds (w + 1) k) : SmA (d :: ds) (w + 1) k := by
  refine ⟨?_, ?_, ?_, ?_, ?_⟩
  · show (d.showable && PyData.showableAll ds) = true
    rw [a.s, b.s]; rfl
  · show (d.hasDict || PyData.hasDictAll ds) = false
    rw [a.n, b.n]; rfl
  · show (d.leavesShort 13 && PyData.leavesShortAll 13 ds) = true
    rw [a.l, b.l]; rfl
  · show d.weight + 1 + PyData.weightAll ds ≤ (w + 1) * (ds.length + 1)
    have := a.w; have := b.w
    rw [Nat.mul_add]; omega
  · show max d.depth (PyData.depthAll ds) ≤ k
    have := a.h; have := b.h
    omega
theorem SmA.tuple {ds : List PyData} {w k : Nat} (a : SmA ds w k) : Sm (.tuple ds) (w * ds.length) (k + 1) :=
  ⟨a.s, a.n, a.l, a.w, Nat.add_le_add_right a.h 1⟩
theorem Sm.mono {d : PyData} {w k w' k' : Nat} (h : Sm d w k) (hw : w ≤ w') (hk : k ≤ k') : Sm d w' k' := ⟨h.s, h.n, h.l, Nat.le_trans h.w hw, Nat.le_trans h.h hk⟩
theorem sm_ints : ∀ {r : List Int}, (∀ x ∈ r, 0 ≤ x ∧ x < 10) → SmA (r.map PyData.int) 12 0
  | [], _ => .nil
  | x :: r, h => .cons (sm_int (h x (by simp)).1 (by have := (h x (by simp)).2; omega)) (sm_ints fun y hy => h y (by simp [hy]))
theorem sm_pair {e : Int × Int} (a0 : 0 ≤ e.1) (a1 : e.1 < 10) (b0 : 0 ≤ e.2) (b1 : e.2 < 10) : Sm (dP e) 24 1 :=
  (SmA.cons (sm_int a0 (by omega)) (SmA.cons (sm_int b0 (by omega)) (SmA.nil (w := 12) (k := 0)))).tuple
theorem sm_pairs : ∀ {L : List (Int × Int)}, (∀ e ∈ L, 0 ≤ e.1 ∧ e.1 < 10 ∧ 0 ≤ e.2 ∧ e.2 < 10) → SmA (L.map dP) 25 1
  | [], _ => .nil
  | e :: L, h => by
    obtain ⟨h1, h2, h3, h4⟩ := h e (by simp)
    exact .cons (sm_pair h1 h2 h3 h4) (sm_pairs fun y hy => h y (by simp [hy]))
def dNet (ms : List Int) (L : List (Int × Int)) : PyData := .tuple [.tuple (ms.map PyData.int), .tuple (L.map dP)]
theorem rep_net {ms : List Int} {L : List (Int × Int)} (hm : ∀ m ∈ ms, 0 ≤ m ∧ m < 4) (lm : ms.length ≤ 10) (hL : ∀ e ∈ L, 0 ≤ e.1 ∧ e.1 < 10 ∧ 0 ≤ e.2 ∧ e.2 < 10) (lL : L.length ≤ 40) : Rep (dNet ms L) := by
  have a := (sm_ints (r := ms) fun x hx => by have := hm x hx; omega).tuple
  rw [List.length_map] at a
  have b := (sm_pairs hL).tuple
  rw [List.length_map] at b
  have c := (SmA.cons (a.mono (w' := 1000) (k' := 2) (by omega) (by decide)) (SmA.cons (b.mono (w' := 1000) (k' := 2) (by omega) (Nat.le_refl _)) (SmA.nil (w := 1001) (k := 2)))).tuple
  exact c.rep (by show 1001 * 2 ≤ _; decide) (by decide)
theorem dp_net {K : PySem.W.Frag} {H : Hp} {t x y : Addr} {ps : List Addr} {ms : List Int} {L : List (Int × Int)} (ht : H t = some (.tup [.ref x, .ref y])) (hx : Tup H x (ms.map V.int)) (hy : Tup H y (ps.map V.ref)) (hp : Paired (PairAt H) ps L) : Dp K H (.ref t) (dNet ms L) :=
  .tup (SqT.of ht) (.cons (.tup hx.sq (dA_ints K H ms)) (.cons (.tup hy.sq (dp_pairs hp)) .nil))
theorem perm_pairs {H : Hp} {ps : List Addr} {L : List (Int × Int)} {ys : List V} (hp : Paired (PairAt H) ps L) (pm : ys.Perm (ps.map V.ref)) : ∃ qs M, ys = qs.map V.ref ∧ Paired (PairAt H) qs M ∧ M.Perm L := by
  have mem : ∀ x ∈ ps.map V.ref, ∃ t, x = V.ref t ∧ PairAt H t (keyOf H x) := fun x hx => by
    obtain ⟨t, ht, rfl⟩ := List.mem_map.mp hx
    obtain ⟨i, hi⟩ := List.getElem?_of_mem ht
    obtain ⟨e, _, he⟩ := paired_get hp hi
    exact ⟨t, rfl, by rw [keyOf_at he]; exact he⟩
  have keys : (ps.map V.ref).map (keyOf H) = L := by
    clear mem pm
    induction hp with
    | nil => rfl
    | cons x _ ih => rw [List.map_cons, List.map_cons, ih, keyOf_at x]
  have my : ∀ y ∈ ys, ∃ t, y = V.ref t ∧ PairAt H t (keyOf H y) := fun y hy => mem y (pm.mem_iff.mp hy)
  refine ⟨ys.map addrOf, ys.map (keyOf H), ?_, ?_, by rw [← keys]; exact pm.map _⟩
  · clear pm
    induction ys with
    | nil => rfl
    | cons y ys ih =>
      obtain ⟨t, rfl, _⟩ := my y List.mem_cons_self
      rw [List.map_cons, List.map_cons, ← ih fun z hz => my z (List.mem_cons_of_mem _ hz)]
      rfl
  · clear pm
    induction ys with
    | nil => exact .nil
    | cons y ys ih =>
      obtain ⟨t, rfl, ht⟩ := my y List.mem_cons_self
      exact .cons ht (ih fun z hz => my z (List.mem_cons_of_mem _ hz))
/-! ### views as data -/
def dV (w : Int × List Int) : PyData := .tuple [.int w.1, .tuple (w.2.map PyData.int)]
theorem ViewAt.dp {K : PySem.W.Frag} {H : Hp} {v : Addr} {w : Int × List Int} (h : ViewAt H v w) : Dp K H (.ref v) (dV w) := by
  obtain ⟨r, h1, h2⟩ := h
  exact .tup (SqT.of h1) (.cons (.int _) (.cons (.tup (SqT.of h2) (dA_ints K H w.2)) .nil))
theorem dp_views {K : PySem.W.Frag} {H : Hp} {vs : List Addr} {ws : List (Int × List Int)} (h : Paired (ViewAt H) vs ws) : DpAll K H (vs.map V.ref) (ws.map dV) := by
  induction h with
  | nil => exact .nil
  | cons a _ ih => exact .cons a.dp ih
theorem dV_eqv1 (u w : Int × List Int) : PyData.eqv (dV u) (dV w) = decide (u = w) := by
  obtain ⟨a, r⟩ := u
  obtain ⟨b, s⟩ := w
  show ((a == b) && (PyData.eqvAll (r.map PyData.int) (s.map PyData.int) && true)) = _
  rw [dA_eqv]
  by_cases h1 : a = b
  · by_cases h2 : r = s <;> simp [h1, h2]
  · simp [h1]
theorem dV_eqv : ∀ L M : List (Int × List Int), PyData.eqvAll (L.map dV) (M.map dV) = decide (L = M)
  | [], [] => rfl
  | [], m :: ms => by simp [PyData.eqvAll]
  | n :: ns, [] => by simp [PyData.eqvAll]
  | n :: ns, m :: ms => by
    show (PyData.eqv (dV n) (dV m) && PyData.eqvAll (ns.map dV) (ms.map dV)) = _
    rw [dV_eqv ns ms, dV_eqv1]
    by_cases h1 : n = m
    · by_cases h2 : ns = ms <;> simp [h1, h2]
    · simp [h1]
theorem dV_lay1 (w : Int × List Int) : PyData.canLay0 (dV w) = true := by
  show (PyData.canLay0 (.int w.1) && (PyData.canLayAll0 (w.2.map PyData.int) && true)) = true
  rw [dA_lay]; rfl
theorem dV_lay : ∀ L : List (Int × List Int), PyData.canLayAll0 (L.map dV) = true
  | [] => rfl
  | n :: ns => by
    show (PyData.canLay0 (dV n) && PyData.canLayAll0 (ns.map dV)) = true
    rw [dV_lay ns, dV_lay1]; rfl
theorem dV_dep1 (w : Int × List Int) : PyData.depth (dV w) ≤ 3 := by
  show max 0 (max (PyData.depthAll (w.2.map PyData.int) + 1) 0) + 1 ≤ 3
  have := dA_dep w.2
  omega
theorem dV_dep : ∀ L : List (Int × List Int), PyData.depthAll (L.map dV) ≤ 3
  | [] => Nat.zero_le 3
  | n :: ns => by
    have h := dV_dep ns
    have h1 := dV_dep1 n
    show max (PyData.depth (dV n)) (PyData.depthAll (ns.map dV)) ≤ 3
    omega
theorem dV_shL (L : List (Int × List Int)) : SeqAt.shaped (.list (L.map dV)) = true := by
  have h := dV_dep L
  have h1 : PyData.depth (.list (L.map dV)) = PyData.depthAll (L.map dV) + 1 := rfl
  unfold SeqAt.shaped
  have h2 : PyData.canLay0 (.list (L.map dV)) = PyData.canLayAll0 (L.map dV) := rfl
  rw [h2, dV_lay, h1, Bool.true_and]
  exact decide_eq_true (by omega)
theorem dV_shT (L : List (Int × List Int)) : SeqAt.shaped (.tuple (L.map dV)) = true := by
  have h := dV_dep L
  have h1 : PyData.depth (.tuple (L.map dV)) = PyData.depthAll (L.map dV) + 1 := rfl
  unfold SeqAt.shaped
  have h2 : PyData.canLay0 (.tuple (L.map dV)) = PyData.canLayAll0 (L.map dV) := rfl
  rw [h2, dV_lay, h1, Bool.true_and]
  exact decide_eq_true (by omega)
theorem dV_sh1 (w : Int × List Int) : SeqAt.shaped (dV w) = true := by
  have h := dV_dep1 w
  unfold SeqAt.shaped
  rw [dV_lay1, Bool.true_and]
  exact decide_eq_true (by omega)
end K71

namespace K71
open PySem PySem.Spec PyProof.Rows L2 KX
/-! ### links in any order, each way round -/
abbrev NetL (C : Addr) (H : Hp) (p : Addr) (ms : List Int) (L : List (Int × Int)) : Prop := NetAt C H p ms (rowsL ms.length L) L
theorem net_same {C : Addr} {H H' : Hp} {p : Addr} {ms : List Int} {R : List (List Int)} {L : List (Int × Int)} (h : NetAt C H p ms R L) (s : Same H H') : NetAt C H' p ms R L := net_nl h fun a o e _ _ => s a o e
theorem lex_ins (e : Int × Int) : ∀ L : List (Int × Int), L.Pairwise lexlt → e ∉ L → ∃ L' : List (Int × Int), L'.Perm (e :: L) ∧ L'.Pairwise lexlt
  | [], _, _ => ⟨[e], List.Perm.refl _, by simp⟩
  | x :: L, h, n => by
    obtain ⟨h1, h2⟩ := List.pairwise_cons.mp h
    have nx : e ≠ x := fun z => n (by rw [z]; exact List.mem_cons_self)
    by_cases c : lexlt e x
    · refine ⟨e :: x :: L, List.Perm.refl _, List.pairwise_cons.mpr ⟨fun y hy => ?_, h⟩⟩
      rcases List.mem_cons.mp hy with z | z
      · rw [z]; exact c
      · have := h1 y z
        unfold lexlt at c this ⊢
        omega
    · obtain ⟨L', p, s⟩ := lex_ins e L h2 fun z => n (List.mem_cons_of_mem _ z)
      refine ⟨x :: L', (p.cons x).trans (List.Perm.swap e x L), List.pairwise_cons.mpr ⟨fun y hy => ?_, s⟩⟩
      rcases List.mem_cons.mp (p.mem_iff.mp hy) with z | z
      · rw [z]
        obtain ⟨e1, e2⟩ := e
        obtain ⟨x1, x2⟩ := x
        have : ¬ (e1 = x1 ∧ e2 = x2) := fun ⟨a, b⟩ => nx (by rw [a, b])
        unfold lexlt at c ⊢
        simp only at c ⊢
        omega
      · exact h1 y z
theorem lex_ex : ∀ M : List (Int × Int), M.Nodup → ∃ L : List (Int × Int), L.Perm M ∧ L.Pairwise lexlt
  | [], _ => ⟨[], List.Perm.refl _, .nil⟩
  | e :: M, h => by
    obtain ⟨h1, h2⟩ := List.nodup_cons.mp h
    obtain ⟨L, p, s⟩ := lex_ex M h2
    obtain ⟨L', p', s'⟩ := lex_ins e L s fun z => h1 (p.mem_iff.mp z)
    exact ⟨L', p'.trans (p.cons e), s'⟩
theorem nb_norm1 {x y : Int} (ne : x ≠ y) (s : Int) : nb [norm (x, y)] s = nb [(x, y)] s := by
  rcases norm_cases x y with e | e <;> rw [e]
  rw [nb_one, nb_one]
  by_cases h1 : x = s
  · have h2 : ¬ y = s := fun z => ne (by rw [h1, z])
    rw [if_neg h2, if_pos h1, if_pos h1]
  · by_cases h2 : y = s
    · rw [if_pos h2, if_neg h1, if_pos h2]
    · rw [if_neg h2, if_neg h1, if_neg h1, if_neg h2]
theorem nb_map_norm : ∀ {M : List (Int × Int)}, (∀ e ∈ M, e.1 ≠ e.2) → ∀ s, nb (M.map norm) s = nb M s
  | [], _, _ => rfl
  | e :: M, h, s => by
    have ih := nb_map_norm (fun x hx => h x (List.mem_cons_of_mem _ hx)) s
    have e1 : nb ((e :: M).map norm) s = nb [norm e] s ++ nb (M.map norm) s := by rw [← nb_append]; rfl
    have e2 : nb (e :: M) s = nb [e] s ++ nb M s := by rw [← nb_append]; rfl
    rw [e1, e2, ih]
    obtain ⟨x, y⟩ := e
    rw [nb_norm1 (h (x, y) List.mem_cons_self)]
theorem nb_perm {L M : List (Int × Int)} (h : L.Perm M) (s : Int) : (nb L s).Perm (nb M s) := h.filterMap _
/-- links of a network of n sites -/
structure Gd (n : Nat) (M : List (Int × Int)) : Prop where
  rng : ∀ e ∈ M, 0 ≤ e.1 ∧ e.1 < n ∧ 0 ≤ e.2 ∧ e.2 < n ∧ e.1 ≠ e.2
  nd : ∀ x, (nb M x).Nodup
  deg : ∀ x, (nb M x).length ≤ 4
theorem Gd.irr {n : Nat} {M : List (Int × Int)} (h : Gd n M) : ∀ e ∈ M, e.1 ≠ e.2 := fun e he => (h.rng e he).2.2.2.2
theorem nd_norm : ∀ {M : List (Int × Int)}, (∀ e ∈ M, e.1 ≠ e.2) → (∀ x, (nb M x).Nodup) → (M.map norm).Nodup
  | [], _, _ => .nil
  | (x, y) :: M, h, nd => by
    have ne : x ≠ y := h (x, y) List.mem_cons_self
    have nd' : ∀ z, (nb M z).Nodup := fun z => by
      have := nd z
      rw [nb_cons] at this
      exact (List.nodup_append.mp this).2.1
    rw [List.map_cons]
    refine List.nodup_cons.mpr ⟨fun z => ?_, nd_norm (fun e he => h e (List.mem_cons_of_mem _ he)) nd'⟩
    obtain ⟨⟨u, v⟩, hf, e⟩ := List.mem_map.mp z
    have hy : y ∈ nb M x := nb_mem ne (by
      rcases norm_inj e with ⟨a, b⟩ | ⟨a, b⟩
      · exact .inl (by rw [← a, ← b]; exact hf)
      · exact .inr (by rw [← a, ← b]; exact hf))
    have := nd x
    rw [nb_cons, if_pos rfl] at this
    exact (List.nodup_append.mp this).2.2 y (by simp) y hy rfl
theorem Gd.good {n : Nat} {M : List (Int × Int)} (h : Gd n M) : Good n 4 (M.map norm) := by
  refine ⟨fun e he => ?_, nd_norm h.irr h.nd, fun s => ?_⟩
  · obtain ⟨⟨x, y⟩, hf, rfl⟩ := List.mem_map.mp he
    obtain ⟨a, b, c, d, ne⟩ := h.rng _ hf
    simp only at a b c d ne
    by_cases z : x ≤ y
    · have e : norm (x, y) = (x, y) := if_pos z
      rw [e]; simp only; omega
    · have e : norm (x, y) = (y, x) := if_neg z
      rw [e]; simp only; omega
  · rw [← nb_len, nb_map_norm h.irr]
    exact h.deg s
/-- the network of such links -/
theorem Gd.net {n : Nat} {M : List (Int × Int)} (h : Gd n M) : ∃ L, Good n 4 L ∧ L.Pairwise lexlt ∧ (M.map norm).Perm L ∧ ∀ s, (nb L s).Perm (nb M s) := by
  obtain ⟨L, p, s⟩ := lex_ex _ h.good.nd
  have pn : ∀ x, (nb L x).Perm (nb M x) := fun x => by
    have := nb_perm p x
    rwa [nb_map_norm h.irr] at this
  refine ⟨L, ⟨fun e he => h.good.rng e (p.mem_iff.mp he), p.nodup_iff.mpr h.good.nd, fun x => ?_⟩, s, p.symm, pn⟩
  rw [← nb_len, (pn x).length_eq]
  exact h.deg x
theorem asc_nodup {l : List Int} (h : l.Pairwise (· < ·)) : l.Nodup := h.imp fun h => by omega
theorem Good.gd {n : Nat} {L : List (Int × Int)} (g : Good n 4 L) (srt : L.Pairwise lexlt) : Gd n L := by
  refine ⟨fun e he => by have := g.rng e he; omega, fun x => asc_nodup (nb_asc srt (fun e he => (g.rng e he).2.1) x), fun x => ?_⟩
  rw [nb_len]; exact g.deg x
theorem sortI_asc {l : List Int} (h : l.Pairwise (· < ·)) : sortI l = l := (sortI_of (List.Perm.refl l) (h.imp fun z => by omega)).symm
/-- pairs of a list as links of a network -/
theorem lk_any {K : PySem.W.Frag} {H : Hp} {n : Nat} {ps : List Addr} {M : List (Int × Int)} (h : Paired (PairAt H) ps M) (r : ∀ e ∈ M, 0 ≤ e.1 ∧ e.1 < n ∧ 0 ≤ e.2 ∧ e.2 < n ∧ e.1 ≠ e.2) : Paired (LkIs K H n) (ps.map V.ref) (M.map some) := by
  induction h with
  | nil => exact .nil
  | @cons p e ps L a _ ih =>
    obtain ⟨h1, h2, h3, h4, h5⟩ := r e List.mem_cons_self
    refine .cons ?_ (ih fun x hx => r x (List.mem_cons_of_mem _ hx))
    exact LkIs.ok (.tup (Tup.of a)) h1 h2 h3 h4 h5
end K71

namespace K71
open PySem PySem.Spec PyProof.Rows L2 KX
local macro_rules | `(tactic| walk_at "rd1") => `(tactic| first
  | with_reducible refine rd_seq ?_
  | with_reducible refine rd_for ?_
  | with_reducible refine rd_lc ?_
  | with_reducible refine rd_asg ?_
  | ((with_reducible refine' rd_var ?rdv ?_); (case rdv => exact rfl))
  | with_reducible refine rd_c ?_
  | with_reducible refine rd_op ?_
  | with_reducible refine rd_un ?_
  | with_reducible refine rd_cons ?_
  | with_reducible refine rd_nil ?_
  | with_reducible refine rd_call ?_
  | with_reducible refine rd_cb ?_
  | with_reducible refine rd_tB ?_
  | with_reducible refine rd_test ?_
  | with_reducible refine rd_bl ?_
  | with_reducible refine rd_rI0 ?_
  | with_reducible refine rd_eqI ?_
  | with_reducible refine rd_neI ?_
  | with_reducible refine rd_rU ?_
  | with_reducible refine rd_name ?_
  | with_reducible refine rd_ifs ?_
  | with_reducible refine rd_and ?_
  | with_reducible refine rd_or ?_
  | with_reducible refine rd_not ?_
  | with_reducible refine rd_yes ?_
  | with_reducible refine rd_andV ?_
  | with_reducible refine rd_orV ?_
  | with_reducible refine rd_notV ?_
  | with_reducible refine rd_if ?_
  | with_reducible refine rd_isN ?_
  | with_reducible refine rd_iT ?_
  | with_reducible refine rd_iF ?_
  | with_reducible refine rd_ret ?_
  | with_reducible refine rd_retN ?_
  | with_reducible refine rd_drop ?_
  | with_reducible refine rd_next ?_
  | with_reducible refine rd_cont ?_
  | with_reducible refine rd_brk ?_
  | with_reducible refine rd_nx ?_
  | with_reducible refine rd_rt ?_
  | with_reducible refine rd_ct ?_
  | with_reducible refine rd_bk ?_
  | with_reducible refine rd_par ?_
  | with_reducible refine rd_par3 ?_
  | with_reducible refine rd_par2 ?_
  | with_reducible refine rd_par33 ?_
  | with_reducible refine rd_gcons ?_
  | with_reducible refine rd_gnil ?_
  | with_reducible refine rd_sub ?_
  | with_reducible refine rd_tup ?_
  | with_reducible refine rd_lst ?_
  | ((with_reducible refine rd_tupT ?hl ?_); (case hl => exact Nat.le_of_ble_eq_true rfl))
  | ((with_reducible refine rd_lstT ?hl ?_); (case hl => exact Nat.le_of_ble_eq_true rfl))
  | with_reducible refine rd_bm ?_
  | with_reducible refine rd_bm0 ?_
  | with_reducible refine rd_sl ?_
  | with_reducible refine rd_noP ?_
  | with_reducible refine rd_part ?_
  | with_reducible refine rd_int ?_
  | with_reducible refine rd_int1 ?_
  | with_reducible refine rd_fld ?_
  | with_reducible refine rd_then ?_
  | with_reducible refine rd_raise ?_
  | with_reducible refine rd_one ?_
  | with_reducible refine rd_sfld ?_
  | with_reducible refine rd_ilist ?_
  | with_reducible refine rd_itup ?_
  | with_reducible refine rd_rng1 ?_
  | with_reducible refine rd_enum ?_
  | with_reducible refine rd_enumT ?_)
local macro_rules | `(tactic| walk_at "rd") => `(tactic| repeat (walk_at "rd1"))
inductive SiIs (K : PySem.W.Frag) (H : Hp) (n m : Nat) : V → Option (List Int) → Prop
  | ntp {x : V} {s : String} (t : TyX K H x (.type s)) (q : kitB s "tuple" = some false) : SiIs K H n m x none
  | len {a : Addr} {xs : List V} (h : Tup H a xs) (l : xs.length ≠ n) : SiIs K H n m (.ref a) none
  | bad {a : Addr} {xs : List V} {os : List (Option Int)} (h : Tup H a xs) (l : xs.length = n) (p : Paired (Kin K H) xs os) (b : (os.all fun o => belB o m) = false) : SiIs K H n m (.ref a) none
  | ok {a : Addr} {ss : List Int} (h : Tup H a (ss.map V.int)) (l : ss.length = n) (b : ∀ s ∈ ss, 0 ≤ s ∧ s < m) : SiIs K H n m (.ref a) (some ss)
def nearB (L B : List (Int × Int)) (ss : List Int) (i : Int) : Bool := decide (sortI ((nb L i).map (modeAt ss)) = nb B (modeAt ss i))
def overB (ms : List Int) (L : List (Int × Int)) (bs : List Int) (B : List (Int × Int)) (md : Bool) : Option (List Int) → Bool
  | none => false
  | some ss => (!md || decide (ms = ss.map (modeAt bs))) && (List.range ms.length).all fun i => nearB L B ss ((i : Nat) : Int)
def spNS (C : Addr) : L2.Sp := fun vs H Q _ => ∃ (p s : Addr) (i : Int) (ms : List Int) (L : List (Int × Int)) (ss : List Int), vs = [.ref p, .int i, .ref s] ∧ NetL C H p ms L ∧ Good ms.length 4 L ∧ ms.length < 1000 ∧ 0 ≤ i ∧ i < ms.length ∧ RowT H s ss ∧ ss.length = ms.length ∧
  ∀ H' t, Same H H' → RowT H' t (sortI ((nb L i).map (modeAt ss))) → Q (.ref t) H'
def spOver (K : PySem.W.Frag) (C : Addr) : L2.Sp := fun vs H Q _ => ∃ (p b : Addr) (x : V) (md : Bool) (ms bs : List Int) (L B : List (Int × Int)) (o : Option (List Int)), vs = [.ref p, .ref b, x, .bl md] ∧ NetL C H p ms L ∧ Good ms.length 4 L ∧ ms.length < 1000 ∧ NetL C H b bs B ∧ Good bs.length 4 B ∧ bs.length < 1000 ∧
  SiIs K H ms.length bs.length x o ∧ ∀ H', Same H H' → Q (.bl (overB ms L bs B md o)) H'
theorem rowT_same {H H' : Hp} {q : Addr} {ns : List Int} (h : RowT H q ns) (s : Same H H') : RowT H' q ns := Tup.same h s
theorem rowT_dp {K : PySem.W.Frag} {H : Hp} {q : Addr} {ns : List Int} (h : RowT H q ns) : Dp K H (.ref q) (.tuple (ns.map PyData.int)) := .tup h.sq (dA_ints K H ns)
theorem eqv_ints (a b : List Int) : PyData.eqv (.tuple (a.map PyData.int)) (.tuple (b.map PyData.int)) = decide (a = b) := dA_eqv a b
section
variable {P : Program} {w : World} {K : PySem.W.Frag} {mg : Str → Option Value} {base : Heap} (T : TX K mg)
theorem G_near_sites : FnOk P w K mg base CX0 6 T.f_near_sites T.d_near_sites ["network", "at", "sites"] (spNS T.c_Network) := by
  refine T.F_near_sites.ok sc_near_sites (fun vs H Q E h => ?_) fun cdv A outer s H vs Q E hr h => ⟨_, (pss_one (ps_ret (pe_tupleK (K := K) (by rfl) T.n_tuple (pe_callB (cr_sortedK (K := K)) (by rfl) T.n_sorted (by decide +kernel) (by exact (pa_cons (by exact (pe_lc (own := [("other", 3)]) (by rfl) sc_near_sites.nd (pi_tupK (K := K) (pe_meth (pv 0) T.C_Network T.H_Network_neighbours (G_Network_neighbours T) (hr.mono (by decide)) T.b_Network_neighbours .nil passL (by exact (pa_cons (pv 1) pa_nil)))) (blkOk_by (own := [("other", 3)]) (N := N_near_sites) (sc := defScope s_near_sites) (by decide +kernel)) (fun _ _ _ _ _ => (pg_name (i := 3) sc_near_sites.nd rfl (.inl rfl))) (fun _ _ _ _ _ => pts_nil) (fun _ _ _ _ _ => (pe_ix (ix_tupK (K := K)) (pv 2) (pv 3) (fun _ _ => rfl))) )) pa_nil)))))), ?_⟩
  · obtain ⟨p, s, i, ms, L, ss, rfl, _⟩ := h
    rfl
  · obtain ⟨p, s, i, ms, L, ss, rfl, hN, g, ml, i0, i1, hs, ls, hQ⟩ := h
    have b1 : belB (some i) ms.length = true := belB_iff.mpr ⟨i0, i1⟩
    walk_at "rd"
    refine rd_meth ?_
    walk_at "rd"
    refine rd_netm (m := "neighbours") hN (by decide +kernel) (by decide +kernel) (by decide +kernel) ?_
    walk_at "rd"
    refine ⟨p, _, ms, L, some i, rfl, hN, .int _, fun z => (by rw [b1] at z; cases z), fun _ => ⟨_, rfl, fun q hq => ?_⟩⟩
    refine ⟨q, rfl, ⟨_, hq.sq⟩, fun D hD => ?_⟩
    have dg := nb_deg g i
    refine lcv_tup (xs := (nb L i).map V.int) (((nb L i).map (modeAt ss)).map V.int) hq (by rw [List.length_map, List.length_map, List.length_map]) (by rw [List.length_map, List.length_map]; omega) hD (fun j x z H1 hx hz S1 R hR => ?_) (fun H1 S1 hD1 => ?_)
    · rw [List.map_map, List.getElem?_map] at hz
      obtain ⟨e, he, rfl⟩ := Option.map_eq_some_iff.mp hz
      rw [List.getElem?_map, he] at hx
      cases hx
      obtain ⟨e0, e1⟩ := nb_rng g (List.mem_of_getElem? he)
      walk_at "rd"
      refine ⟨rfl, ?_⟩
      walk_at "rd"
      refine rd_ixT (hs.same S1) (modeAt_get e0 (by omega)) ?_
      exact hR H1 (Same.refl _)
    · walk_at "rd"
      refine rd_sorted hD1 (by rw [List.length_map]; omega) fun ns' pm srt => ?_
      intro u H2 z2 S2 hu
      refine rd_tupL hu ?_
      intro u2 H3 z3 S3 hu2
      have e : ns' = sortI ((nb L i).map (modeAt ss)) := sortI_of pm srt
      rw [e] at hu2
      exact hQ H3 u2 ((S1.trans S2).trans S3) (Tup.of hu2)
theorem G_is_over : FnOk P w K mg base CX0 7 T.f_is_over T.d_is_over ["network", "base", "sites", "modes"] (spOver K T.c_Network) := by
  refine T.F_is_over.ok sc_is_over (fun vs H Q E h => ?_) fun cdv A outer s H vs Q E hr h => ⟨_, (pss_cons (ps_if (PW.pt (pw_or (pt_not (pt_val (pe_call (G_is_tuple_of T) (hr.mono (by decide)) (by rfl) T.m_is_tuple_of T.F_is_tuple_of.kp T.b_is_tuple_of .nil pass0 (by exact (pa_cons (pv 2) (pa_cons (pe_callB (cr_lenK (K := K)) (by rfl) T.n_len (by decide +kernel) (by exact (pa_cons (pe_fldK (K := K) (pv 0)) pa_nil))) pa_nil)))))) (pw_or1 (pt_not (pt_val (pe_callB (cr_allK (K := K) rfl) (by rfl) T.n_all (by decide +kernel) (by exact (pa_cons (by exact (pe_lc (own := [("site", 4)]) (by rfl) sc_is_over.nd (pi_tupK (K := K) (pv 2)) (blkOk_by (own := [("site", 4)]) (N := N_is_over) (sc := defScope s_is_over) (by decide +kernel)) (fun _ _ _ _ _ => (pg_name (i := 4) sc_is_over.nd rfl (.inl rfl))) (fun _ _ _ _ _ => pts_nil) (fun _ _ _ _ _ => (pe_call (G_is_below T) (hr.mono (by decide)) (by rfl) T.m_is_below T.F_is_below.kp T.b_is_below .nil pass0 (by exact (pa_cons (pv 4) (pa_cons (pe_callB (cr_lenK (K := K)) (by rfl) T.n_len (by decide +kernel) (by exact (pa_cons (pe_fldK (K := K) (pv 1)) pa_nil))) pa_nil))))) )) pa_nil)))))))) (pss_one (ps_ret pe_bl)) pss_nil) (pss_cons (ps_if (PW.pt (pw_and (by exact (pt_truth (pv 3) (by intro _; rfl))) (pw_and1 (pt_cmpR (op_neDK (K := K) hr.units) (pe_fldK (K := K) (pv 0)) (pe_tupleK (K := K) (by rfl) T.n_tuple (by exact (pe_lc (own := [("site", 4)]) (by rfl) sc_is_over.nd (pi_tupK (K := K) (pv 2)) (blkOk_by (own := [("site", 4)]) (N := N_is_over) (sc := defScope s_is_over) (by decide +kernel)) (fun _ _ _ _ _ => (pg_name (i := 4) sc_is_over.nd rfl (.inl rfl))) (fun _ _ _ _ _ => pts_nil) (fun _ _ _ _ _ => (pe_ix (ix_tupK (K := K)) (pe_fldK (K := K) (pv 1)) (pv 4) (fun _ _ => rfl))) ))) (nomark _))))) (pss_one (ps_ret pe_bl)) pss_nil) (pss_one (ps_ret (pe_callB (cr_allK (K := K) rfl) (by rfl) T.n_all (by decide +kernel) (by exact (pa_cons (by exact (pe_lc (own := [("at", 5), ("site", 4)]) (by rfl) sc_is_over.nd (pi_enumTK (K := K) (by rfl) T.n_enumerate (by exact (pa_cons (pv 2) pa_nil))) (blkOk_by (own := [("at", 5), ("site", 4)]) (N := N_is_over) (sc := defScope s_is_over) (by decide +kernel)) (fun _ _ _ _ _ => (pg_tupK (K := K) (n := 2) (by rfl) (pgs_cons (pg_name (i := 5) sc_is_over.nd rfl (.inl rfl)) (pgs_cons (pg_name (i := 4) sc_is_over.nd rfl (.inl rfl)) pgs_nil)))) (fun _ _ _ _ _ => pts_nil) (fun _ _ _ _ _ => (pe_cmpR (op_eqDK (K := K) hr.units) (pe_call (G_near_sites T) (hr.mono (by decide)) (by rfl) T.m_near_sites T.F_near_sites.kp T.b_near_sites .nil pass0 (by exact (pa_cons (pv 0) (pa_cons (pv 5) (pa_cons (pv 2) pa_nil))))) (pe_meth (pv 1) T.C_Network T.H_Network_neighbours (G_Network_neighbours T) (hr.mono (by decide)) T.b_Network_neighbours .nil passL (by exact (pa_cons (pv 4) pa_nil))) (nomark _))) )) pa_nil))))))), ?_⟩
  · obtain ⟨p, b, x, md, ms, bs, L, B, o, rfl, _⟩ := h
    rfl
  · obtain ⟨p, b, x, md, ms, bs, L, B, o, rfl, hN, g, ml, hB, gB, bl, hx, hQ⟩ := h
    obtain ⟨dx, pm, pn, pl, qs, ps, hp, hm, _⟩ := hN.ob
    obtain ⟨dx', pm', pn', pl', qs', ps', hp', hm', _⟩ := hB.ob
    walk_at "rd"
    refine ⟨p, _, dx, _, _, rfl, hp, T.C_Network, T.A_Network_modes, look_modes, ?_⟩
    walk_at "rd"
    refine rd_lenTup hm ?_
    rw [List.length_map]
    walk_at "rd"
    have first : ∀ {a : Addr} {xs : List V} {os : List (Option Int)} (R : Bool → Hp → Prop), x = .ref a → Tup H a xs → Paired (Kin K H) xs os → xs.length = ms.length → (∀ H', Same H H' → R (os.all fun o => belB o bs.length) H') →
        tB (tCB (rAll K) (tCons (tLc (iTup K (tVar 2)) (gName 4) tYes (tCall (spBelow K) [] E0 (tCons (tVar 4) (tCons (tCB (rLenS K) (tCons (tFld K (tVar 1) "modes") tNil)) tNil))) (List.map (fun x => x.snd) [(("site" : Str), 4)])) tNil)) (L2.start N_is_over [.ref p, .ref b, x, .bl md]) H R := fun {a xs os} R ex ha hk lx hR => by
      subst ex
      have lo := paired_len hk
      walk_at "rd"
      refine ⟨a, rfl, ⟨_, ha.sq⟩, fun D hD => ?_⟩
      refine lcv_tup (xs := xs) (os.map fun o => V.bl (belB o bs.length)) ha (by rw [List.length_map]; omega) (by rw [List.length_map]; omega) hD (fun j x z' H1 hx hz S1 R' hR' => ?_) (fun H1 S1 hD1 => ?_)
      · rw [List.getElem?_map] at hz
        obtain ⟨o, ho, rfl⟩ := Option.map_eq_some_iff.mp hz
        obtain ⟨o', ho', ko⟩ := paired_get hk hx
        rw [ho] at ho'
        cases ho'
        walk_at "rd"
        refine ⟨rfl, ?_⟩
        walk_at "rd"
        refine ⟨b, _, dx', _, _, rfl, S1 _ _ hp', T.C_Network, T.A_Network_modes, look_modes, ?_⟩
        walk_at "rd"
        refine rd_lenTup (hm'.same S1) ?_
        rw [List.length_map]
        walk_at "rd"
        exact ⟨_, _, _, rfl, kin_same ko S1, hR' H1 (Same.refl _)⟩
      · walk_at "rd"
        have e1 : (os.map fun o => V.bl (belB o bs.length)) = (os.map fun o => belB o bs.length).map V.bl := by simp
        rw [e1] at hD1
        refine rd_all hD1 ?_
        have e2 : (os.map fun o => belB o bs.length).all id = os.all fun o => belB o bs.length := by simp [List.all_map]
        rw [e2]
        walk_at "rd"
        exact hR H1 S1
    cases hx with
    | ntp t q =>
      refine ⟨_, _, rfl, .inl ⟨_, t, q, ?_⟩⟩
      walk_at "rd"
      refine iteT' rfl ?_
      walk_at "rd"
      exact hQ H (Same.refl H)
    | @len a xs h l =>
      refine ⟨_, _, rfl, .inr ⟨a, xs, rfl, h, ?_⟩⟩
      walk_at "rd"
      refine iteT' (by simp; omega) ?_
      walk_at "rd"
      exact hQ H (Same.refl H)
    | @bad a xs os h l k bb =>
      refine ⟨_, _, rfl, .inr ⟨a, xs, rfl, h, ?_⟩⟩
      walk_at "rd"
      refine iteF' (by simp; omega) ?_
      walk_at "rd1"
      refine first _ rfl h k l fun H1 S1 => ?_
      rw [bb]
      walk_at "rd"
      refine iteT' rfl ?_
      walk_at "rd"
      exact hQ H1 S1
    | @ok a ss h l sb =>
      have hk : Paired (Kin K H) (ss.map V.int) (ss.map some) := kin_all K H ss
      have ba : ((ss.map some).all fun o => belB o bs.length) = true := by
        rw [List.all_eq_true]
        intro o ho
        obtain ⟨s, hs, rfl⟩ := List.mem_map.mp ho
        exact belB_iff.mpr (sb s hs)
      refine ⟨_, _, rfl, .inr ⟨a, _, rfl, h, ?_⟩⟩
      walk_at "rd"
      refine iteF' (by simp; omega) ?_
      walk_at "rd1"
      refine first _ rfl h hk (by rw [List.length_map]; exact l) fun H1 S1 => ?_
      rw [ba]
      walk_at "rd"
      refine iteF' rfl ?_
      have fin : ∀ (H1 : Hp) (R : VK), Same H H1 → (∀ H', Same H H' → R (.bl ((List.range ms.length).all fun i => nearB L B ss ((i : Nat) : Int))) H') →
          tCB (rAll K) (tCons (tLc (iEnumT K (tCons (tVar 2) tNil)) (gTup K 2 (gCons (gName 5) (gCons (gName 4) gNil))) tYes
            (tOp (rEqD K) (tCall (spNS T.c_Network) [] E0 (tCons (tVar 0) (tCons (tVar 5) (tCons (tVar 2) tNil)))) (tMeth T.c_Network (("neighbours" : Str)) (spNear K T.c_Network T.c_InvalidQuestion) [] E0 (tVar 1) (tCons (tVar 4) tNil)))
            (List.map (fun x => x.snd) [(("at" : Str), 5), (("site" : Str), 4)])) tNil) (L2.start N_is_over [.ref p, .ref b, .ref a, .bl md]) H1 R := fun H1 R S1 hR => by
        walk_at "rd"
        refine ⟨a, _, rfl, (h.same S1).sq, fun D hD => ?_⟩
        refine it_wk (walk_enumT (K := K) (xs := ss.map V.int)) (fun i H' => Same H1 H' ∧ H' D = some (.lst (((List.range i).map fun j => nearB L B ss ((j : Nat) : Int)).map V.bl)))
          ⟨Same.fresh hD, upd_same⟩ (fun i H' _ pv => ((h.same S1).same pv.1).sq) (fun i v H5 H6 hi pv y => ?_) (fun H5 pv => ?_)
        · obtain ⟨S5, hD5⟩ := pv
          obtain ⟨t, a', b', rfl, ht, rfl, ha, hb⟩ := y
          have ha : some (V.int (i : Nat)) = some a' := ha
          cases ha
          have hb : (ss.map V.int)[i]? = some b' := hb
          rw [List.getElem?_map] at hb
          obtain ⟨s, hs, rfl⟩ := Option.map_eq_some_iff.mp hb
          have S6 : Same H5 (upd H5 t (.tup [.int (i : Nat), .int s])) := Same.fresh ht
          have et : upd H5 t (.tup [.int (i : Nat), .int s]) t = some (.tup [.int (i : Nat), .int s]) := upd_same
          generalize upd H5 t (.tup [.int (i : Nat), .int s]) = H6 at S6 et
          have hi' : i < ms.length := by rw [List.length_map] at hi; omega
          obtain ⟨s0, s1⟩ := sb s (List.mem_of_getElem? hs)
          have es : modeAt ss ((i : Nat) : Int) = s := by
            unfold modeAt
            have : ((i : Nat) : Int).toNat = i := by omega
            rw [this, List.getD_eq_getElem?_getD, hs]; rfl
          have S16 := (S1.trans S5).trans S6
          refine rd_gtup (Tup.of et) rfl ?_
          walk_at "rd"
          refine ⟨rfl, ?_⟩
          walk_at "rd"
          refine ⟨p, a, i, ms, L, ss, rfl, net_same hN S16, g, ml, by omega, by omega, h.same S16, l, fun H7 t7 S7 ht7 => ?_⟩
          walk_at "rd"
          have N7 := net_same hB (S16.trans S7)
          have b1 : belB (some s) bs.length = true := belB_iff.mpr ⟨s0, s1⟩
          refine rd_meth ?_
          walk_at "rd"
          refine rd_netm (m := "neighbours") N7 (by decide +kernel) (by decide +kernel) (by decide +kernel) ?_
          walk_at "rd"
          refine ⟨b, _, bs, B, some s, rfl, N7, .int _, fun z => (by rw [b1] at z; cases z), fun _ => ⟨_, rfl, fun q hq => ?_⟩⟩
          refine ⟨_, _, rowT_dp ht7, rowT_dp hq, dA_sh _, dA_sh _, ?_⟩
          rw [eqv_ints]
          have hD7 := S7 _ _ (S6 _ _ hD5)
          refine ⟨_, hD7, ?_, same_put ((S5.trans S6).trans S7) hD, ?_⟩
          · rw [List.length_map, List.length_map, List.length_range]
            exact Nat.lt_of_le_of_lt (by omega : i ≤ 1000) (by decide)
          · rw [upd_same, List.range_succ, List.map_append, List.map_append]
            have e7 : nearB L B ss ((i : Nat) : Int) = decide (sortI ((nb L ((i : Nat) : Int)).map (modeAt ss)) = nb B s) := by unfold nearB; rw [es]
            rw [← e7]
            rfl
        · obtain ⟨S5, hD5⟩ := pv
          walk_at "rd"
          refine rd_all hD5 ?_
          have e8 : (((List.range (ss.map V.int).length).map fun j => nearB L B ss ((j : Nat) : Int)).all id) = ((List.range ms.length).all fun i => nearB L B ss ((i : Nat) : Int)) := by
            rw [List.length_map, l, List.all_map]; rfl
          rw [e8]
          exact hR H5 (S1.trans S5)
      walk_at "rd"
      refine ⟨md, rfl, ?_⟩
      cases md with
      | false =>
        refine rd_iF (rd_iF (rd_next (rd_nx (rd_ret ?_))))
        exact fin H1 _ S1 fun H2 S2 => hQ H2 S2
      | true =>
        walk_at "rd"
        refine ⟨p, _, dx, _, _, rfl, S1 _ _ hp, T.C_Network, T.A_Network_modes, look_modes, ?_⟩
        walk_at "rd"
        refine ⟨a, rfl, ⟨_, (h.same S1).sq⟩, fun D hD => ?_⟩
        refine lcv_tup (xs := ss.map V.int) ((ss.map (modeAt bs)).map V.int) (h.same S1) (by rw [List.length_map, List.length_map, List.length_map]) (by rw [List.length_map, List.length_map]; omega) hD (fun j x z H2 hx hz S2 R hR => ?_) (fun H2 S2 hD2 => ?_)
        · rw [List.map_map, List.getElem?_map] at hz
          obtain ⟨e, he, rfl⟩ := Option.map_eq_some_iff.mp hz
          rw [List.getElem?_map, he] at hx
          cases hx
          obtain ⟨e0, e1⟩ := sb e (List.mem_of_getElem? he)
          walk_at "rd"
          refine ⟨rfl, ?_⟩
          walk_at "rd"
          refine ⟨b, _, dx', _, _, rfl, S2 _ _ (S1 _ _ hp'), T.C_Network, T.A_Network_modes, look_modes, ?_⟩
          walk_at "rd"
          refine rd_ixT (hm'.same (S1.trans S2)) (modeAt_get e0 e1) ?_
          exact hR H2 (Same.refl _)
        · walk_at "rd"
          refine rd_tupL hD2 ?_
          intro t3 H3 z3 S3 ht3
          have S13 := (S1.trans S2).trans S3
          refine ⟨_, _, rowT_dp (hm.same S13), rowT_dp (Tup.of ht3), dA_sh _, dA_sh _, ?_⟩
          rw [eqv_ints]
          walk_at "rd"
          by_cases c : ms = ss.map (modeAt bs)
          · refine iteF' (by rw [decide_eq_true c]; rfl) ?_
            refine rd_next (rd_nx (rd_ret ?_))
            refine fin H3 _ S13 fun H4 S4 => ?_
            have q := hQ H4 S4
            have eT : overB ms L bs B true (some ss) = ((List.range ms.length).all fun i => nearB L B ss ((i : Nat) : Int)) := by
              show ((!true || decide (ms = ss.map (modeAt bs))) && _) = _
              rw [decide_eq_true c]; rfl
            rwa [eT] at q
          · refine iteT' (by rw [decide_eq_false c]; rfl) ?_
            walk_at "rd"
            have q := hQ H3 S13
            have eF : overB ms L bs B true (some ss) = false := by
              show ((!true || decide (ms = ss.map (modeAt bs))) && _) = _
              rw [decide_eq_false c]; rfl
            rwa [eF] at q
end
end K71

namespace K71
/-! ### what lies over a network: each site k times, each link k times, turned -/
def rangeI (n : Nat) : List Int := (List.range n).map fun i => ((i : Nat) : Int)
/-- a turn of k things -/
structure IsTurn (k : Nat) (t : List Int) : Prop where
  pm : t.Perm (rangeI k)
theorem IsTurn.len {k : Nat} {t : List Int} (h : IsTurn k t) : t.length = k := by
  rw [h.pm.length_eq]; unfold rangeI; rw [List.length_map, List.length_range]
theorem mem_rangeI {k : Nat} {x : Int} : x ∈ rangeI k ↔ 0 ≤ x ∧ x < k := by
  unfold rangeI
  constructor
  · intro h
    obtain ⟨i, hi, rfl⟩ := List.mem_map.mp h
    have := List.mem_range.mp hi
    omega
  · intro ⟨h0, h1⟩
    exact List.mem_map.mpr ⟨x.toNat, List.mem_range.mpr (by omega), by omega⟩
theorem rangeI_nd (k : Nat) : (rangeI k).Nodup := by
  unfold rangeI
  refine List.pairwise_map.mpr ((List.nodup_range (n := k)).imp fun h => ?_)
  omega
theorem IsTurn.nd {k : Nat} {t : List Int} (h : IsTurn k t) : t.Nodup := h.pm.nodup_iff.mpr (rangeI_nd k)
theorem IsTurn.mem {k : Nat} {t : List Int} (h : IsTurn k t) {x : Int} : x ∈ t ↔ 0 ≤ x ∧ x < k := by rw [h.pm.mem_iff]; exact mem_rangeI
def atT (t : List Int) (c : Nat) : Int := t.getD c 0
theorem IsTurn.at_ {k : Nat} {t : List Int} (h : IsTurn k t) {c : Nat} (hc : c < k) : 0 ≤ atT t c ∧ atT t c < k := by
  have l := h.len
  unfold atT
  rw [List.getD_eq_getElem?_getD, List.getElem?_eq_getElem (by omega)]
  exact h.mem.mp (List.getElem_mem (by omega))
theorem IsTurn.inj {k : Nat} {t : List Int} (h : IsTurn k t) {c d : Nat} (hc : c < k) (hd : d < k) (e : atT t c = atT t d) : c = d := by
  have l := h.len
  unfold atT at e
  rw [List.getD_eq_getElem?_getD, List.getD_eq_getElem?_getD, List.getElem?_eq_getElem (by omega), List.getElem?_eq_getElem (by omega)] at e
  have e : t[c]'(by omega) = t[d]'(by omega) := e
  have pw := List.pairwise_iff_getElem.mp h.nd
  rcases Nat.lt_trichotomy c d with z | z | z
  · exact absurd e (pw c d (by omega) (by omega) z)
  · exact z
  · exact absurd e.symm (pw d c (by omega) (by omega) z)
theorem IsTurn.onto {k : Nat} {t : List Int} (h : IsTurn k t) {x : Int} (h0 : 0 ≤ x) (h1 : x < k) : ∃ c, c < k ∧ atT t c = x := by
  have l := h.len
  obtain ⟨c, hc, e⟩ := List.getElem_of_mem (h.mem.mpr ⟨h0, h1⟩)
  refine ⟨c, by omega, ?_⟩
  unfold atT
  rw [List.getD_eq_getElem?_getD, List.getElem?_eq_getElem hc, ← e]; rfl
/-- the links over a link -/
def fib (k : Nat) (e : Int × Int) (t : List Int) : List (Int × Int) := (List.range k).map fun c => (e.1 * k + (c : Nat), e.2 * k + atT t c)
def lift (k : Nat) : List (Int × Int) → List (List Int) → List (Int × Int)
  | e :: L, t :: ts => fib k e t ++ lift k L ts
  | _, _ => []
theorem lift_snoc (k : Nat) : ∀ (L : List (Int × Int)) (ts : List (List Int)) (e : Int × Int) (t : List Int), L.length = ts.length → lift k (L ++ [e]) (ts ++ [t]) = lift k L ts ++ fib k e t
  | [], [], e, t, _ => by show fib k e t ++ [] = [] ++ fib k e t; simp
  | x :: L, y :: ts, e, t, h => by
    show fib k x y ++ lift k (L ++ [e]) (ts ++ [t]) = (fib k x y ++ lift k L ts) ++ fib k e t
    rw [lift_snoc k L ts e t (by simpa using h), List.append_assoc]
  | [], y :: ts, e, t, h => by simp at h
  | x :: L, [], e, t, h => by simp at h
theorem lift_len (k : Nat) : ∀ (L : List (Int × Int)) (ts : List (List Int)), (lift k L ts).length ≤ L.length * k
  | [], _ => by simp [lift]
  | e :: L, [] => by simp [lift]
  | e :: L, t :: ts => by
    show (fib k e t ++ lift k L ts).length ≤ _
    have := lift_len k L ts
    rw [List.length_append]
    unfold fib
    rw [List.length_map, List.length_range, List.length_cons, Nat.add_mul]
    omega
theorem div_mul_add {s : Int} {k c : Nat} (hc : c < k) : (s * k + (c : Nat)) / k = s := by
  have hk : (k : Int) ≠ 0 := by omega
  rw [Int.add_comm, Int.add_mul_ediv_right _ _ hk, Int.ediv_eq_zero_of_lt (by omega) (by omega)]
  omega
theorem div_mul_add' {s c : Int} {k : Nat} (h0 : 0 ≤ c) (h1 : c < k) : (s * k + c) / k = s := by
  obtain ⟨n, rfl⟩ := Int.eq_ofNat_of_zero_le h0
  exact div_mul_add (by omega)
theorem split_at {x : Int} {k : Nat} (hk : 0 < k) : x = (x / k) * k + x % k ∧ 0 ≤ x % k ∧ x % k < k := by
  have hk' : (k : Int) ≠ 0 := by omega
  refine ⟨?_, Int.emod_nonneg _ hk', Int.emod_lt_of_pos _ (by omega)⟩
  have := Int.mul_ediv_add_emod x k
  rw [Int.mul_comm] at this
  omega
theorem mul_add_eq {s r : Int} {k : Nat} {c d : Int} (c0 : 0 ≤ c) (c1 : c < k) (d0 : 0 ≤ d) (d1 : d < k) : s * k + c = r * k + d ↔ s = r ∧ c = d := by
  constructor
  · intro e
    have h1 := div_mul_add' (s := s) c0 c1
    have h2 := div_mul_add' (s := r) d0 d1
    rw [e, h2] at h1
    subst h1
    exact ⟨rfl, by omega⟩
  · rintro ⟨rfl, rfl⟩; rfl
theorem fm_one {α β : Type} [DecidableEq α] (f : α → Option β) (a : α) (b : β) : ∀ {l : List α}, l.Nodup → a ∈ l → (∀ x ∈ l, x ≠ a → f x = none) → f a = some b → l.filterMap f = [b]
  | x :: l, nd, ha, hn, hb => by
    obtain ⟨n1, n2⟩ := List.nodup_cons.mp nd
    rw [List.filterMap_cons]
    by_cases c : x = a
    · subst c
      rw [hb]
      have : l.filterMap f = [] := List.filterMap_eq_nil_iff.mpr fun y hy => hn y (List.mem_cons_of_mem _ hy) fun z => n1 (by rw [← z]; exact hy)
      rw [this]
    · rw [hn x (List.mem_cons_self ..) c]
      have ha' : a ∈ l := by
        rcases List.mem_cons.mp ha with z | z
        · exact absurd z.symm c
        · exact z
      exact fm_one f a b n2 ha' (fun y hy => hn y (List.mem_cons_of_mem _ hy)) hb
theorem fm_none {α β : Type} (f : α → Option β) {l : List α} (h : ∀ x ∈ l, f x = none) : l.filterMap f = [] := List.filterMap_eq_nil_iff.mpr h
/-- who is linked to a place over a site: over each that is linked to the site, one -/
theorem nb_fib {k : Nat} {e : Int × Int} {t : List Int} (ht : IsTurn k t) (ne : e.1 ≠ e.2) (hk : 0 < k) (x : Int) : (nb (fib k e t) x).map (fun y : Int => y / (k : Int)) = nb [e] (x / (k : Int)) := by
  obtain ⟨ex, x0, x1⟩ := split_at (x := x) hk
  obtain ⟨a, b⟩ := e
  have ne : a ≠ b := ne
  rw [nb_one]
  have en : nb (fib k (a, b) t) x = (List.range k).filterMap fun c => if a * k + (c : Nat) = x then some (b * k + atT t c) else if b * k + atT t c = x then some (a * k + (c : Nat)) else none := by
    unfold nb fib
    rw [List.filterMap_map]; rfl
  rw [en]
  have e1 : ∀ c ∈ List.range k, (a * k + ((c : Nat) : Int) = x ↔ a = x / k ∧ ((c : Nat) : Int) = x % k) := fun c hc => by
    have hc := List.mem_range.mp hc
    have z := mul_add_eq (s := a) (r := x / (k : Int)) (k := k) (c := ((c : Nat) : Int)) (by omega) (by omega) x0 x1
    rw [← ex] at z
    exact z
  have e2 : ∀ c ∈ List.range k, (b * k + atT t c = x ↔ b = x / k ∧ atT t c = x % k) := fun c hc => by
    have hc := List.mem_range.mp hc
    obtain ⟨h0, h1⟩ := ht.at_ hc
    have z := mul_add_eq (s := b) (r := x / (k : Int)) h0 h1 x0 x1
    rw [← ex] at z
    exact z
  have x2 : (((x % (k : Int)).toNat : Nat) : Int) = x % (k : Int) := by omega
  by_cases ca : a = x / (k : Int)
  · have cb : ¬ b = x / (k : Int) := fun z => ne (by rw [ca, z])
    rw [if_pos ca]
    have hc0 : (x % (k : Int)).toNat < k := by omega
    obtain ⟨h0, h1⟩ := ht.at_ hc0
    rw [fm_one _ (x % (k : Int)).toNat (b * k + atT t (x % (k : Int)).toNat) (List.nodup_range) (List.mem_range.mpr hc0) (fun c hc nc => ?_) ?_]
    · show [(b * k + atT t (x % (k : Int)).toNat) / (k : Int)] = [b]
      rw [div_mul_add' h0 h1]
    · rw [if_pos ((e1 _ (List.mem_range.mpr hc0)).mpr ⟨ca, x2⟩)]
    · have n1 : ¬ a * k + ((c : Nat) : Int) = x := fun z => nc (by have := ((e1 c hc).mp z).2; omega)
      have n2 : ¬ b * k + atT t c = x := fun z => cb ((e2 c hc).mp z).1
      rw [if_neg n1, if_neg n2]
  · rw [if_neg ca]
    by_cases cb : b = x / (k : Int)
    · rw [if_pos cb]
      obtain ⟨c1, hc1, et⟩ := ht.onto x0 x1
      rw [fm_one _ c1 (a * k + ((c1 : Nat) : Int)) (List.nodup_range) (List.mem_range.mpr hc1) (fun c hc nc => ?_) ?_]
      · show [(a * k + ((c1 : Nat) : Int)) / (k : Int)] = [a]
        rw [div_mul_add hc1]
      · have n1 : ¬ a * k + ((c1 : Nat) : Int) = x := fun z => ca ((e1 c1 (List.mem_range.mpr hc1)).mp z).1
        rw [if_neg n1, if_pos ((e2 c1 (List.mem_range.mpr hc1)).mpr ⟨cb, et⟩)]
      · have n1 : ¬ a * k + ((c : Nat) : Int) = x := fun z => ca ((e1 c hc).mp z).1
        have n2 : ¬ b * k + atT t c = x := fun z => nc (ht.inj (List.mem_range.mp hc) hc1 (by rw [((e2 c hc).mp z).2, et]))
        rw [if_neg n1, if_neg n2]
    · rw [if_neg cb, fm_none _ fun c hc => ?_]
      · rfl
      · have n1 : ¬ a * k + ((c : Nat) : Int) = x := fun z => ca ((e1 c hc).mp z).1
        have n2 : ¬ b * k + atT t c = x := fun z => cb ((e2 c hc).mp z).1
        rw [if_neg n1, if_neg n2]
theorem nb_lift {k : Nat} (hk : 0 < k) (x : Int) : ∀ {L : List (Int × Int)} {ts : List (List Int)}, L.length = ts.length → (∀ e ∈ L, e.1 ≠ e.2) → (∀ t ∈ ts, IsTurn k t) → (nb (lift k L ts) x).map (fun y : Int => y / (k : Int)) = nb L (x / (k : Int))
  | [], [], _, _, _ => rfl
  | e :: L, t :: ts, hl, ne, ht => by
    show (nb (fib k e t ++ lift k L ts) x).map _ = nb ([e] ++ L) _
    rw [nb_append, nb_append, List.map_append, nb_fib (ht t (List.mem_cons_self ..)) (ne e (List.mem_cons_self ..)) hk x, nb_lift hk x (by simpa using hl) (fun e he => ne e (List.mem_cons_of_mem _ he)) fun t h => ht t (List.mem_cons_of_mem _ h)]
  | [], t :: ts, hl, _, _ => by simp at hl
  | e :: L, [], hl, _, _ => by simp at hl
theorem lift_mem {k : Nat} {z : Int × Int} : ∀ {L : List (Int × Int)} {ts : List (List Int)}, z ∈ lift k L ts → ∃ e ∈ L, ∃ t ∈ ts, ∃ c, c < k ∧ z = (e.1 * k + (c : Nat), e.2 * k + atT t c)
  | e :: L, t :: ts, h => by
    rcases List.mem_append.mp (show z ∈ fib k e t ++ lift k L ts from h) with y | y
    · unfold fib at y
      obtain ⟨c, hc, rfl⟩ := List.mem_map.mp y
      exact ⟨e, List.mem_cons_self .., t, List.mem_cons_self .., c, List.mem_range.mp hc, rfl⟩
    · obtain ⟨e', he, t', ht, c, hc, ez⟩ := lift_mem y
      exact ⟨e', List.mem_cons_of_mem _ he, t', List.mem_cons_of_mem _ ht, c, hc, ez⟩
theorem lift_rng {n k : Nat} {L : List (Int × Int)} {ts : List (List Int)} (g : Good n 4 L) (ht : ∀ t ∈ ts, IsTurn k t) : ∀ z ∈ lift k L ts, 0 ≤ z.1 ∧ z.1 < z.2 ∧ z.2 < (n * k : Nat) := fun z hz => by
  obtain ⟨e, he, t, hT, c, hc, rfl⟩ := lift_mem hz
  obtain ⟨r0, r1, r2⟩ := g.rng e he
  obtain ⟨h0, h1⟩ := (ht t hT).at_ hc
  have m1 : 0 ≤ e.1 * (k : Int) := Int.mul_nonneg r0 (by omega)
  have m2 : (e.1 + 1) * (k : Int) ≤ e.2 * k := Int.mul_le_mul_of_nonneg_right (by omega) (by omega)
  have m3 : (e.2 + 1) * (k : Int) ≤ (n : Int) * k := Int.mul_le_mul_of_nonneg_right (by omega) (by omega)
  rw [Int.add_mul, Int.one_mul] at m2 m3
  have m4 : ((n * k : Nat) : Int) = (n : Int) * k := Int.natCast_mul n k
  show 0 ≤ e.1 * (k : Int) + (c : Nat) ∧ e.1 * (k : Int) + (c : Nat) < e.2 * k + atT t c ∧ e.2 * k + atT t c < (n * k : Nat)
  omega
theorem lift_gd {n k : Nat} {L : List (Int × Int)} {ts : List (List Int)} (hk : 0 < k) (g : Good n 4 L) (srt : L.Pairwise lexlt) (hl : L.length = ts.length) (ht : ∀ t ∈ ts, IsTurn k t) : Gd (n * k) (lift k L ts) := by
  have gd := Good.gd g srt
  have key := fun x => nb_lift hk x hl gd.irr ht
  refine ⟨fun e he => by have := lift_rng g ht e he; omega, fun x => ?_, fun x => ?_⟩
  · have := gd.nd (x / (k : Int))
    rw [← key x] at this
    exact (List.pairwise_map.mp this).imp fun h z => h (by rw [z])
  · have := gd.deg (x / (k : Int))
    rw [← key x, List.length_map] at this
    exact this
theorem lift_norm {n k : Nat} {L : List (Int × Int)} {ts : List (List Int)} (g : Good n 4 L) (ht : ∀ t ∈ ts, IsTurn k t) : (lift k L ts).map norm = lift k L ts := by
  refine (List.map_congr_left fun z hz => ?_).trans (List.map_id _)
  have := lift_rng g ht z hz
  show norm z = z
  unfold norm
  rw [if_pos (by omega)]
/-- the network over a network -/
theorem lift_net {n k : Nat} {L : List (Int × Int)} {ts : List (List Int)} (hk : 0 < k) (g : Good n 4 L) (srt : L.Pairwise lexlt) (hl : L.length = ts.length) (ht : ∀ t ∈ ts, IsTurn k t) :
    ∃ L', Good (n * k) 4 L' ∧ L'.Pairwise lexlt ∧ L'.Perm (lift k L ts) ∧ ((lift k L ts).map norm).Perm L' ∧ ∀ x, ((nb L' x).map fun y : Int => y / (k : Int)).Perm (nb L (x / (k : Int))) := by
  obtain ⟨L', g', s', p', pn⟩ := (lift_gd hk g srt hl ht).net
  refine ⟨L', g', s', ?_, p', fun x => ?_⟩
  · rw [lift_norm g ht] at p'
    exact p'.symm
  · have := (pn x).map fun y : Int => y / (k : Int)
    rw [nb_lift hk x hl (Good.gd g srt).irr ht] at this
    exact this
/-- each entry k times -/
def timesL (k : Nat) (ms : List Int) : List Int := (ms.map fun m => List.replicate k m).flatten
theorem times_len (k : Nat) : ∀ ms : List Int, (timesL k ms).length = ms.length * k
  | [] => by simp [timesL]
  | m :: ms => by
    show (List.replicate k m ++ timesL k ms).length = _
    rw [List.length_append, List.length_replicate, times_len k ms, List.length_cons, Nat.add_mul]
    omega
theorem times_get {k : Nat} (hk : 0 < k) : ∀ (ms : List Int) (i : Nat), (timesL k ms).getD i 0 = ms.getD (i / k) 0
  | [], i => by simp [timesL]
  | m :: ms, i => by
    show (List.replicate k m ++ timesL k ms).getD i 0 = _
    by_cases c : i < k
    · rw [Nat.div_eq_of_lt c, List.getD_eq_getElem?_getD, List.getElem?_append_left (by rw [List.length_replicate]; exact c), List.getElem?_replicate, if_pos c]; rfl
    · have e : i / k = (i - k) / k + 1 := by
        rw [← Nat.add_div_right _ hk]
        congr 1
        omega
      rw [e, List.getD_eq_getElem?_getD, List.getElem?_append_right (by rw [List.length_replicate]; omega), List.length_replicate, ← List.getD_eq_getElem?_getD, times_get hk ms (i - k)]
      rfl
theorem times_at {k : Nat} (hk : 0 < k) (ms : List Int) {x : Int} (x0 : 0 ≤ x) : modeAt (timesL k ms) x = modeAt ms (x / (k : Int)) := by
  obtain ⟨n, rfl⟩ := Int.eq_ofNat_of_zero_le x0
  unfold modeAt
  have e : (((n : Nat) : Int) / (k : Int)).toNat = n / k := by
    rw [show ((n : Nat) : Int) / (k : Int) = ((n / k : Nat) : Int) from (Int.natCast_ediv n k).symm]
    exact Int.toNat_natCast _
  rw [e]
  exact times_get hk ms n
theorem range_at {n : Nat} {s : Int} (h0 : 0 ≤ s) (h1 : s < n) : modeAt (rangeI n) s = s := by
  obtain ⟨i, rfl⟩ := Int.eq_ofNat_of_zero_le h0
  unfold modeAt rangeI
  have e : ((i : Nat) : Int).toNat = i := by omega
  rw [e, List.getD_eq_getElem?_getD, List.getElem?_map, List.getElem?_range (by omega)]; rfl
theorem times_map (k : Nat) (f : Int → Int) : ∀ ms : List Int, (timesL k ms).map f = timesL k (ms.map f)
  | [] => rfl
  | m :: ms => by
    show (List.replicate k m ++ timesL k ms).map f = List.replicate k (f m) ++ timesL k (ms.map f)
    rw [List.map_append, List.map_replicate, times_map k f ms]
theorem range_map_at (ms : List Int) : (rangeI ms.length).map (modeAt ms) = ms := by
  unfold rangeI
  rw [List.map_map]
  refine List.ext_getElem (by simp) fun i h1 h2 => ?_
  rw [List.getElem_map, List.getElem_range]
  show modeAt ms ((i : Nat) : Int) = _
  unfold modeAt
  have e : ((i : Nat) : Int).toNat = i := by omega
  rw [e, List.getD_eq_getElem?_getD, List.getElem?_eq_getElem h2]; rfl
theorem quot_rng {n k : Nat} {x : Int} (hk : 0 < k) (x0 : 0 ≤ x) (x1 : x < (n * k : Nat)) : 0 ≤ x / (k : Int) ∧ x / (k : Int) < n := by
  refine ⟨Int.ediv_nonneg x0 (by omega), Int.ediv_lt_of_lt_mul (by omega) ?_⟩
  rw [← Int.natCast_mul]; exact x1
/-- the places below -/
theorem below_at {n k : Nat} {x : Int} (hk : 0 < k) (x0 : 0 ≤ x) (x1 : x < (n * k : Nat)) : modeAt (timesL k (rangeI n)) x = x / (k : Int) := by
  obtain ⟨h0, h1⟩ := quot_rng hk x0 x1
  rw [times_at hk _ x0, range_at h0 h1]
theorem rangeI_len (n : Nat) : (rangeI n).length = n := by unfold rangeI; rw [List.length_map, List.length_range]
/-- what is made lies over -/
theorem lift_over {k : Nat} {ms : List Int} {L L' : List (Int × Int)} (hk : 0 < k) (g : Good ms.length 4 L) (srt : L.Pairwise lexlt) (g' : Good (ms.length * k) 4 L') (hn : ∀ x, ((nb L' x).map fun y : Int => y / (k : Int)).Perm (nb L (x / (k : Int)))) :
    overB (timesL k ms) L' ms L true (some (timesL k (rangeI ms.length))) = true := by
  have e1 : timesL k ms = (timesL k (rangeI ms.length)).map (modeAt ms) := by rw [times_map, range_map_at]
  show ((!true || decide (timesL k ms = (timesL k (rangeI ms.length)).map (modeAt ms))) && (List.range (timesL k ms).length).all fun i => nearB L' L (timesL k (rangeI ms.length)) ((i : Nat) : Int)) = true
  rw [decide_eq_true e1, times_len]
  show ((List.range (ms.length * k)).all fun i => nearB L' L (timesL k (rangeI ms.length)) ((i : Nat) : Int)) = true
  refine List.all_eq_true.mpr fun i hi => ?_
  have hi := List.mem_range.mp hi
  refine decide_eq_true ?_
  rw [below_at hk (by omega) (by omega)]
  have em : (nb L' ((i : Nat) : Int)).map (modeAt (timesL k (rangeI ms.length))) = (nb L' ((i : Nat) : Int)).map fun y : Int => y / (k : Int) := List.map_congr_left fun y hy => by
    obtain ⟨h0, h1⟩ := nb_rng g' hy
    exact below_at hk h0 h1
  rw [em, sortI_congr (hn _)]
  exact sortI_asc (nb_asc srt (fun e he => (g.rng e he).2.1) _)
theorem lift_view {k : Nat} {ms : List Int} {L L' : List (Int × Int)} (hk : 0 < k) (g' : Good (ms.length * k) 4 L') (hn : ∀ x, ((nb L' x).map fun y : Int => y / (k : Int)).Perm (nb L (x / (k : Int)))) {x : Int} (x0 : 0 ≤ x) (x1 : x < (ms.length * k : Nat)) :
    viewOf (timesL k ms) L' x = viewOf ms L (x / (k : Int)) := by
  unfold viewOf
  rw [times_at hk ms x0]
  have em : (nb L' x).map (modeAt (timesL k ms)) = ((nb L' x).map fun y : Int => y / (k : Int)).map (modeAt ms) := by
    rw [List.map_map]
    refine List.map_congr_left fun y hy => ?_
    exact times_at hk ms (nb_rng g' hy).1
  rw [em, sortI_congr ((hn x).map _)]
end K71

namespace K71
open PySem PySem.Spec PyProof.Rows L2 KX RZ
local macro_rules | `(tactic| walk_at "rd1") => `(tactic| first
  | with_reducible refine rd_seq ?_
  | with_reducible refine rd_for ?_
  | with_reducible refine rd_lc ?_
  | with_reducible refine rd_asg ?_
  | ((with_reducible refine' rd_var ?rdv ?_); (case rdv => exact rfl))
  | with_reducible refine rd_c ?_
  | with_reducible refine rd_op ?_
  | with_reducible refine rd_un ?_
  | with_reducible refine rd_cons ?_
  | with_reducible refine rd_nil ?_
  | with_reducible refine rd_call ?_
  | with_reducible refine rd_cb ?_
  | with_reducible refine rd_tB ?_
  | with_reducible refine rd_test ?_
  | with_reducible refine rd_bl ?_
  | with_reducible refine rd_rI0 ?_
  | with_reducible refine rd_eqI ?_
  | with_reducible refine rd_neI ?_
  | with_reducible refine rd_rU ?_
  | with_reducible refine rd_name ?_
  | with_reducible refine rd_ifs ?_
  | with_reducible refine rd_and ?_
  | with_reducible refine rd_or ?_
  | with_reducible refine rd_not ?_
  | with_reducible refine rd_yes ?_
  | with_reducible refine rd_andV ?_
  | with_reducible refine rd_orV ?_
  | with_reducible refine rd_notV ?_
  | with_reducible refine rd_if ?_
  | with_reducible refine rd_isN ?_
  | with_reducible refine rd_iT ?_
  | with_reducible refine rd_iF ?_
  | with_reducible refine rd_ret ?_
  | with_reducible refine rd_retN ?_
  | with_reducible refine rd_drop ?_
  | with_reducible refine rd_next ?_
  | with_reducible refine rd_cont ?_
  | with_reducible refine rd_brk ?_
  | with_reducible refine rd_nx ?_
  | with_reducible refine rd_rt ?_
  | with_reducible refine rd_ct ?_
  | with_reducible refine rd_bk ?_
  | with_reducible refine rd_par ?_
  | with_reducible refine rd_par3 ?_
  | with_reducible refine rd_par2 ?_
  | with_reducible refine rd_par33 ?_
  | with_reducible refine rd_gcons ?_
  | with_reducible refine rd_gnil ?_
  | with_reducible refine rd_sub ?_
  | with_reducible refine rd_tup ?_
  | with_reducible refine rd_lst ?_
  | ((with_reducible refine rd_tupT ?hl ?_); (case hl => exact Nat.le_of_ble_eq_true rfl))
  | ((with_reducible refine rd_lstT ?hl ?_); (case hl => exact Nat.le_of_ble_eq_true rfl))
  | with_reducible refine rd_bm ?_
  | with_reducible refine rd_bm0 ?_
  | with_reducible refine rd_sl ?_
  | with_reducible refine rd_noP ?_
  | with_reducible refine rd_part ?_
  | with_reducible refine rd_int ?_
  | with_reducible refine rd_int1 ?_
  | with_reducible refine rd_fld ?_
  | with_reducible refine rd_then ?_
  | with_reducible refine rd_raise ?_
  | with_reducible refine rd_one ?_
  | with_reducible refine rd_sfld ?_
  | with_reducible refine rd_ilist ?_
  | with_reducible refine rd_itup ?_
  | with_reducible refine rd_rng1 ?_
  | with_reducible refine rd_enum ?_
  | with_reducible refine rd_enumT ?_)
local macro_rules | `(tactic| walk_at "rd") => `(tactic| repeat (walk_at "rd1"))
theorem ne_nil {l : List Int} (h : 0 < l.length) : l ≠ [] := fun z => by rw [z] at h; simp at h
theorem rd_chain {r r' : R2} {ta tb tc : TE} {σ : L2.St} {H : Hp} {Q : VK} (h : ta σ H fun x H1 => tb σ H1 fun y H2 => r x y H2 fun z H3 => ∃ k, z = .bl k ∧ (if k = true then tc σ H3 fun w' H4 => r' y w' H4 Q else Q (.bl false) H3)) : tChain r r' ta tb tc σ H Q := h
theorem rg_ints (n : Nat) : rgV 0 ((n : Nat) : Int) = (rangeI n).map V.int := by
  unfold rgV rangeI
  rw [List.map_map]
  have : (((n : Nat) : Int) - 0).toNat = n := by omega
  rw [this]
  refine List.map_congr_left fun i _ => ?_
  show V.int (0 + (i : Nat)) = V.int (i : Nat)
  rw [Int.zero_add]
theorem rd_lstRg {ta : TE} {σ : L2.St} {H : Hp} {Q : VK} (h : ta σ H fun x H1 => ∃ n, x = .int n ∧ RgOk 0 n ∧ ∀ q, H1 q = none → Q (.ref q) (upd H1 q (.lst (rgV 0 n)))) : tLstRg (tRg1 ta) σ H Q := h
theorem rd_rgTail {n : Nat} {H1 : Hp} {Q : VK} (hn : n < 1000) (h : NewO H1 (.lst ((rangeI n).map V.int)) Q) : RgOk 0 ((n : Nat) : Int) ∧ ∀ q, H1 q = none → Q (.ref q) (upd H1 q (.lst (rgV 0 ((n : Nat) : Int)))) :=
  ⟨RgOk.of_le (by omega) (by omega) (by omega) (by omega), fun q hq => by rw [rg_ints]; exact new_of h q hq⟩
def rSortB (K : PySem.W.Frag) : List V → Hp → VK → Prop := fun vs H Q => rSorted K vs H Q ∨ rSortT K vs H Q
theorem cr_sortBK {X : Cx} {K : PySem.W.Frag} (hK : X.K = K := by rfl) : CallR X (.builtin "sorted") (rSortB K) := by
  subst hK
  intro pins s σ H vs us Q I r h
  rcases h with h | h
  · exact cr_sorted pins s σ H vs us Q I r h
  · exact cr_sortT pins s σ H vs us Q I r h
theorem rd_sortB {K : PySem.W.Frag} {H : Hp} {Q : VK} {x : V} {ns : List Int} (hx : SqX K H x (some (ns.map V.int))) (hl : ns.length < 64) (h : ∀ ns' : List Int, ns'.Perm ns → ns'.Pairwise (· ≤ ·) → NewO H (.lst (ns'.map V.int)) Q) : rSortB K [x] H Q := by
  cases hx with
  | lst ha => exact .inl (rd_sorted ha hl h)
  | tup ha => exact .inr ⟨_, ns, rfl, ha.sq, hl, fun ns' p pm srt hp => new_of (h ns' pm srt) p hp⟩
theorem for_zipTX {K : PySem.W.Frag} {ta : TA} {g : TG} {tb : TS} {D : Ends} {σ : L2.St} {H : Hp} {a : Addr} {x : V} {xs ys : List V} {b : Bool} (ha : Tup H a xs) (hx : SqB H x ys b) (hl : xs.length = ys.length) (hi : ∀ QA : List V → Hp → Prop, QA [.ref a, x] H → ta σ H QA)
    (Pv : Nat → L2.St → Hp → Prop) (h0 : Pv 0 σ H) (hk : ∀ i σ H', Pv i σ H' → Tup H' a xs ∧ SqB H' x ys b)
    (hs : ∀ (i : Nat) (u y : V) (T : Addr) (σ : L2.St) (H' H2 : Hp), xs[i]? = some u → ys[i]? = some y → Pv i σ H' → H' T = none → Same H' H2 → H2 T = some (.tup [u, y]) → g (.ref T) σ H2 fun σ2 H2 => tb { D with nx := Pv (i + 1), ct := Pv (i + 1), bk := D.nx } σ2 H2)
    (hd : ∀ σ H', Pv xs.length σ H' → D.nx σ H') : tFor (iZipTX K ta) g tb D σ H := by
  have st : ∀ i v σ H1 H2, i < xs.length → Pv i σ H1 → YPair (fun i => xs[i]?) (fun i => ys[i]?) i H1 v H2 → g v σ H2 fun σ3 H3 => tb { D with nx := Pv (i + 1), ct := Pv (i + 1), bk := D.nx } σ3 H3 := by
    rintro i v σ H1 H2 _ hp ⟨T, u, y, rfl, hT, rfl, hu, hy⟩
    exact hs i u y T σ H1 _ hu hy hp hT (Same.fresh hT) upd_same
  cases b with
  | true =>
    obtain ⟨c, rfl, hy⟩ := hx
    refine .inl (hi _ ⟨a, _, xs, ys, rfl, ha.sq, SqL.of hy, for_it (walk_zipM hl) Pv h0 (fun i σ H' _ p => ?_) st hd⟩)
    obtain ⟨q1, c', e, q2⟩ := hk i σ H' p
    cases e
    exact ⟨q1.sq, SqL.of q2⟩
  | false =>
    obtain ⟨c, rfl, hy⟩ := hx
    refine .inr (hi _ ⟨a, _, xs, ys, rfl, .inr ⟨ha.sq, hy.sq, for_it (walk_zipT hl) Pv h0 (fun i σ H' _ p => ?_) st hd⟩⟩)
    obtain ⟨q1, c', e, q2⟩ := hk i σ H' p
    cases e
    exact ⟨q1.sq, q2.sq⟩
/-- a comprehension over enumerate of a list or a tuple -/
theorem lc_enumX {K : PySem.W.Frag} {ta : TA} {g : TG} {te : TE} {vs : List Nat} {σ : L2.St} {H : Hp} {x : V} {xs : List V} {Q : VK} (hx : SqX K H x (some xs)) (hi : ∀ QA : List V → Hp → Prop, QA [x] H → ta σ H QA)
    (Pv : Addr → Nat → Hp → Prop) (h0 : ∀ D, H D = none → Pv D 0 (upd H D (.lst []))) (hk : ∀ D i H', H D = none → Pv D i H' → Same H H')
    (hs : ∀ (D : Addr) (i : Nat) (y : V) (T : Addr) (H' H2 : Hp), H D = none → xs[i]? = some y → Pv D i H' → H' T = none → Same H' H2 → H2 T = some (.tup [.int (i : Nat), y]) → g (.ref T) (wipe σ vs) H2 fun σ2 H2 => wipe σ2 vs = wipe σ vs ∧ te σ2 H2 fun y H4 => ∃ acc, H4 D = some (.lst acc) ∧ acc.length < sizeLine ∧ Pv D (i + 1) (upd H4 D (.lst (acc ++ [y]))))
    (hd : ∀ D H', H D = none → Pv D xs.length H' → Q (.ref D) H') : tLc (fun σ H R => iEnum K ta σ H R ∨ iEnumT K ta σ H R) g tYes te vs σ H Q := by
  have st : ∀ D, H D = none → ∀ i v H1 H2, i < xs.length → Pv D i H1 → YPair (fun i => some (.int (i : Nat))) (fun i => xs[i]?) i H1 v H2 → g v (wipe σ vs) H2 fun σ2 H2 => wipe σ2 vs = wipe σ vs ∧ tYes σ2 H2 fun b H3 =>
      if b = true then te σ2 H3 fun y H4 => ∃ acc, H4 D = some (.lst acc) ∧ acc.length < sizeLine ∧ Pv D (i + 1) (upd H4 D (.lst (acc ++ [y]))) else Pv D (i + 1) H3 := by
    rintro D hD i v H1 H2 _ hp ⟨T, u, y, rfl, hT, rfl, hu, hy⟩
    have hu : some (V.int (i : Nat)) = some u := hu
    cases hu
    exact hs D i y T H1 _ hD hy hp hT (Same.fresh hT) upd_same
  cases hx with
  | lst ha => exact .inl (hi _ ⟨_, _, rfl, SqL.of ha, fun D hD => lc_it (walk_enum (K := K) (xs := xs)) (Pv D) (h0 D hD) (fun i H' _ p => SqL.of (hk D i H' hD p _ _ ha)) (st D hD) (fun H' p => hd D H' hD p)⟩)
  | tup ha => exact .inr (hi _ ⟨_, _, rfl, ha.sq, fun D hD => lc_it (walk_enumT (K := K) (xs := xs)) (Pv D) (h0 D hD) (fun i H' _ p => (ha.same (hk D i H' hD p)).sq) (st D hD) (fun H' p => hd D H' hD p)⟩)
/-! what the defs do -/
def okC : Option Int → Bool
  | some i => decide (1 ≤ i) && decide (i ≤ 1000)
  | none => false
def spCC (K : PySem.W.Frag) (C CQ : Addr) : L2.Sp := fun vs H Q E => ∃ (p : Addr) (y z : V) (ms : List Int) (L : List (Int × Int)) (o : Option Int) (zo : Option (List V)), vs = [.ref p, y, z] ∧ NetL C H p ms L ∧ Kin K H y o ∧ SqX K H z zo ∧
  (okC o = false → ErrAt CQ E H 1) ∧ (okC o = true → ((zo = none ∨ ∃ xs, zo = some xs ∧ xs.length ≠ L.length) → ErrAt CQ E H 2) ∧ (∀ xs, zo = some xs → xs.length = L.length → ∀ H', Same H H' → Q .non H'))
/-- what is a turn of k, and what is not -/
inductive TurnX (K : PySem.W.Frag) (H : Hp) (k : Nat) : V → Bool → Prop
  | seq {x : V} (s : SqX K H x none) : TurnX K H k x false
  | bad {x : V} {xs : List V} {os : List (Option Int)} (s : SqX K H x (some xs)) (p : Paired (Kin K H) xs os) (b : (os.all fun o => belB o k) = false) (l : xs.length < 1000) : TurnX K H k x false
  | nums {x : V} {t : List Int} (s : SqX K H x (some (t.map V.int))) (b : ∀ c ∈ t, 0 ≤ c ∧ c < k) (l : t.length < 64) : TurnX K H k x (decide (sortI t = rangeI k))
theorem rangeI_asc (k : Nat) : (rangeI k).Pairwise (· ≤ ·) := by
  unfold rangeI
  refine List.pairwise_map.mpr ?_
  have : (List.range k).Pairwise (· < ·) := List.pairwise_lt_range (n := k)
  exact this.imp fun h => by omega
theorem turn_iff {k : Nat} {t : List Int} : sortI t = rangeI k ↔ IsTurn k t := by
  constructor
  · intro h
    exact ⟨by rw [← h]; exact (sortI_perm t).symm⟩
  · intro h
    exact (sortI_of h.pm.symm (rangeI_asc k)).symm
theorem TurnX.same {K : PySem.W.Frag} {H H' : Hp} {k : Nat} {x : V} {c : Bool} (h : TurnX K H k x c) (s : Same H H') : TurnX K H' k x c := by
  cases h with
  | seq h => exact .seq (sqx_same h s)
  | bad h p b l => exact .bad (sqx_same h s) (kins_same p s) b l
  | nums h b l => exact .nums (sqx_same h s) b l
def spIT (K : PySem.W.Frag) : L2.Sp := fun vs H Q _ => ∃ (x : V) (k : Nat) (c : Bool), vs = [x, .int (k : Nat)] ∧ TurnX K H k x c ∧ k ≤ 1000 ∧ ∀ H', Same H H' → Q (.bl c) H'
/-- turns as they stand -/
def TurnAt (K : PySem.W.Frag) (H : Hp) (x : V) (t : List Int) : Prop := SqX K H x (some (t.map V.int))
/-- a network and what may be made over it -/
structure Ov (ms : List Int) (L : List (Int × Int)) (k : Nat) : Prop where
  g : Good ms.length 4 L
  srt : L.Pairwise lexlt
  mb : ∀ m ∈ ms, 0 ≤ m ∧ m < 4
  m0 : 0 < ms.length
  k0 : 0 < k
  k9 : k ≤ 1000
  mz : ms.length * k < 1000
  lk : L.length * k < 10000
/-- what is made -/
def Made (C : Addr) (H : Hp) (s : Addr) (ms : List Int) (L : List (Int × Int)) (k : Nat) (ts : List (List Int)) : Prop :=
  ∃ L', NetL C H s (timesL k ms) L' ∧ Good (ms.length * k) 4 L' ∧ L'.Pairwise lexlt ∧ L'.Perm (lift k L ts) ∧ ∀ x, ((nb L' x).map fun y : Int => y / (k : Int)).Perm (nb L (x / (k : Int)))
theorem Made.same {C s : Addr} {H H' : Hp} {ms : List Int} {L : List (Int × Int)} {k : Nat} {ts : List (List Int)} (h : Made C H s ms L k ts) (S : Same H H') : Made C H' s ms L k ts := by
  obtain ⟨L', a, b⟩ := h
  exact ⟨L', net_same a S, b⟩
theorem times_snoc (k : Nat) (ms : List Int) (m : Int) : timesL k (ms ++ [m]) = timesL k ms ++ List.replicate k m := by
  unfold timesL
  rw [List.map_append, List.flatten_append]; simp
theorem times_take {k : Nat} {ms : List Int} {i : Nat} {m : Int} (h : ms[i]? = some m) : timesL k (ms.take (i + 1)) = timesL k (ms.take i) ++ List.replicate k m := by
  rw [List.take_succ, h]; exact times_snoc k _ m
theorem fib_take (k : Nat) (e : Int × Int) (t : List Int) (j : Nat) : (List.range (j + 1)).map (fun c => (e.1 * k + ((c : Nat) : Int), e.2 * k + atT t c)) = (List.range j).map (fun c => (e.1 * k + ((c : Nat) : Int), e.2 * k + atT t c)) ++ [(e.1 * k + ((j : Nat) : Int), e.2 * k + atT t j)] := by
  rw [List.range_succ, List.map_append]; rfl
theorem lift_take {k : Nat} {L : List (Int × Int)} {ts : List (List Int)} {i : Nat} {e : Int × Int} {t : List Int} (hl : L.length = ts.length) (he : L[i]? = some e) (ht : ts[i]? = some t) : lift k (L.take (i + 1)) (ts.take (i + 1)) = lift k (L.take i) (ts.take i) ++ fib k e t := by
  rw [List.take_succ, List.take_succ, he, ht]
  exact lift_snoc k _ _ e t (by rw [List.length_take, List.length_take, hl])
theorem paired_append {α β : Type} {F : α → β → Prop} {l l' : List α} {m m' : List β} (h : Paired F l m) (h' : Paired F l' m') : Paired F (l ++ l') (m ++ m') := by
  induction h with
  | nil => exact h'
  | cons a _ ih => exact .cons a ih
def spTO (K : PySem.W.Frag) (C : Addr) : L2.Sp := fun vs H Q _ => ∃ (p : Addr) (z : V) (k : Nat) (ms : List Int) (L : List (Int × Int)) (xs : List V) (ts : List (List Int)), vs = [.ref p, .int (k : Nat), z] ∧ NetL C H p ms L ∧ Ov ms L k ∧ SqX K H z (some xs) ∧ Paired (TurnAt K H) xs ts ∧ ts.length = L.length ∧ (∀ t ∈ ts, IsTurn k t) ∧
  ∀ H' s, Same H H' → Made C H' s ms L k ts → Q (.ref s) H'
section
variable {P : Program} {w : World} {K : PySem.W.Frag} {mg : Str → Option Value} {base : Heap} (T : TX K mg)
theorem G_check_copies : FnOk P w K mg base (L2.CX P w) 5 T.f_check_copies T.d_check_copies ["network", "copies", "things"] (spCC K T.c_Network T.c_InvalidQuestion) := by
  refine T.F_check_copies.okX sc_check_copies (fun vs H Q E h => ?_) fun cdv A outer s H vs Q E hr h => ⟨_, (pss_cons (ps_if (PW.pt (pw_or (pt_not (pt_val (pe_call (G_is_integer T) (hr.mono (by decide)) (by rfl) T.m_is_integer T.F_is_integer.kp T.b_is_integer .nil pass0 (by exact (pa_cons (pv 1) pa_nil))))) (pw_or1 (pt_not (pt_chain op_le op_le pe_int (pv 1) (pe_glob (v := .int 1000) rfl T.m_MOST_COPIES ⟨_, rfl⟩)))))) (pss_one (ps_raiseErrZ rfl T.E_InvalidQuestion hr (takes_of rfl rfl rfl rfl) (by exact (pa_cons pe_int pa_nil)))) pss_nil) (pss_one (ps_if (PW.pt (pw_or (pt_not (pt_val (pe_call (G_is_sequence T) (hr.mono (by decide)) (by rfl) T.m_is_sequence T.F_is_sequence.kp T.b_is_sequence .nil pass0 (by exact (pa_cons (pv 2) pa_nil))))) (pw_or1 (pt_cmpR op_ne (pe_callB (cr_lenK (K := K)) (by rfl) T.n_len (by decide +kernel) (by exact (pa_cons (pv 2) pa_nil))) (pe_callB (cr_lenK (K := K)) (by rfl) T.n_len (by decide +kernel) (by exact (pa_cons (pe_fldK (K := K) (pv 0)) pa_nil))) (nomark _))))) (pss_one (ps_raiseErrZ rfl T.E_InvalidQuestion hr (takes_of rfl rfl rfl rfl) (by exact (pa_cons pe_int pa_nil)))) pss_nil))), ?_⟩
  · obtain ⟨p, y, z, ms, L, o, zo, rfl, _⟩ := h
    rfl
  · obtain ⟨p, y, z, ms, L, o, zo, rfl, hN, ky, sz, h1, h2⟩ := h
    walk_at "rd"
    refine ⟨y, o, rfl, ky, ?_⟩
    walk_at "rd"
    have fin : okC o = true → True := fun _ => trivial
    cases o with
    | none =>
      refine iteT' rfl ?_
      walk_at "rd"
      exact fun d hd => h1 rfl H d (Same.refl H) hd
    | some i =>
      cases ky with
      | int i =>
      refine iteF' rfl ?_
      walk_at "rd"
      refine rd_chain ?_
      walk_at "rd"
      obtain ⟨b1, e1⟩ : ∃ b, b = decide (1 ≤ i) := ⟨_, rfl⟩
      obtain ⟨b2, e2⟩ : ∃ b, b = decide (i ≤ 1000) := ⟨_, rfl⟩
      have eo : okC (some i) = (b1 && b2) := by rw [e1, e2]; rfl
      rw [eo] at h1 h2
      rw [← e1]
      cases b1 with
      | false =>
        refine rd_iF ?_
        walk_at "rd"
        refine iteT' rfl ?_
        walk_at "rd"
        exact fun d hd => h1 rfl H d (Same.refl H) hd
      | true =>
        refine rd_iT ?_
        walk_at "rd"
        rw [← e2]
        cases b2 with
        | false =>
          refine iteT' rfl ?_
          walk_at "rd"
          exact fun d hd => h1 rfl H d (Same.refl H) hd
        | true =>
          refine iteF' rfl ?_
          walk_at "rd"
          obtain ⟨h3, h4⟩ := h2 rfl
          refine ⟨z, zo, rfl, sz, fun H1 S1 => ?_⟩
          walk_at "rd"
          cases zo with
          | none =>
            refine iteT' rfl ?_
            walk_at "rd"
            exact fun d hd => h3 (.inl rfl) H1 d S1 hd
          | some xs =>
            refine iteF' rfl ?_
            obtain ⟨a, rfl, hor⟩ := SqX.any (sqx_same sz S1)
            obtain ⟨dx, pm, pn, pl, qs, ps, hp, hm, _, _, hl, pL⟩ := (net_same hN S1).ob
            have lp := paired_len pL
            walk_at "rd"
            refine rd_lenB hor ?_
            walk_at "rd"
            refine ⟨p, _, dx, _, _, rfl, hp, T.C_Network, T.A_Network_links, look_links, ?_⟩
            walk_at "rd"
            refine rd_lenTup (Tup.of hl) ?_
            rw [List.length_map, lp]
            walk_at "rd"
            by_cases c : xs.length = L.length
            · refine iteF' (by simp [c]) ?_
              walk_at "rd"
              exact h4 xs rfl c H1 S1
            · refine iteT' (by have : ¬ ((xs.length : Nat) : Int) = ((L.length : Nat) : Int) := by omega
                               simp [this]) ?_
              walk_at "rd"
              exact fun d hd => h3 (.inr ⟨xs, rfl, c⟩) H1 d S1 hd
theorem G_is_turn : FnOk P w K mg base CX0 4 T.f_is_turn T.d_is_turn ["value", "copies"] (spIT K) := by
  refine T.F_is_turn.ok sc_is_turn (fun vs H Q E h => ?_) fun cdv A outer s H vs Q E hr h => ⟨_, (pss_cons (ps_if (PW.pt (pw_or (pt_not (pt_val (pe_call (G_is_sequence T) (hr.mono (by decide)) (by rfl) T.m_is_sequence T.F_is_sequence.kp T.b_is_sequence .nil pass0 (by exact (pa_cons (pv 0) pa_nil))))) (pw_or1 (pt_not (pt_val (pe_callB (cr_allK (K := K) rfl) (by rfl) T.n_all (by decide +kernel) (by exact (pa_cons (by exact (pe_lc (own := [("number", 2)]) (by rfl) sc_is_turn.nd (PI.or (pi_listK (K := K) (pv 0)) (pi_tupK (K := K) (pv 0))) (blkOk_by (own := [("number", 2)]) (N := N_is_turn) (sc := defScope s_is_turn) (by decide +kernel)) (fun _ _ _ _ _ => (pg_name (i := 2) sc_is_turn.nd rfl (.inl rfl))) (fun _ _ _ _ _ => pts_nil) (fun _ _ _ _ _ => (pe_call (G_is_below T) (hr.mono (by decide)) (by rfl) T.m_is_below T.F_is_below.kp T.b_is_below .nil pass0 (by exact (pa_cons (pv 2) (pa_cons (pv 1) pa_nil))))) )) pa_nil)))))))) (pss_one (ps_ret pe_bl)) pss_nil) (pss_one (ps_ret (pe_cmpR (op_eqDK (K := K) hr.units) (pe_callB (cr_sortBK (K := K)) (by rfl) T.n_sorted (by decide +kernel) (by exact (pa_cons (pv 0) pa_nil))) (pe_listRg rfl (by rfl) T.n_list (prg_1 (by rfl) T.n_range (pv 1))) (nomark _))))), ?_⟩
  · obtain ⟨x, k, c, rfl, _⟩ := h
    rfl
  · obtain ⟨x, k, c, rfl, hx, k1, hQ⟩ := h
    walk_at "rd"
    cases hx with
    | seq sx =>
      refine ⟨x, none, rfl, sx, fun H1 S1 => ?_⟩
      walk_at "rd"
      refine iteT' rfl ?_
      walk_at "rd"
      exact hQ H1 S1
    | @bad xs os sx p b lx =>
      have lp := paired_len p
      refine ⟨x, some xs, rfl, sx, fun H1 S1 => ?_⟩
      walk_at "rd"
      refine iteF' rfl ?_
      walk_at "rd"
      obtain ⟨a, rfl, hor⟩ := SqX.any sx
      refine lcv_both (xs := xs) (os.map fun o => V.bl (belB o k)) (sqx_same sx S1) (by intro R r; exact rd_var rfl r) (by rw [List.length_map, lp]) (by rw [List.length_map]; omega) (fun i y z H2 hy hz S2 R hR => ?_) (fun H2 D S2 hD => ?_) rfl
      · rw [List.getElem?_map] at hz
        obtain ⟨o, ho, rfl⟩ := Option.map_eq_some_iff.mp hz
        obtain ⟨o', ho', hk⟩ := paired_get p hy
        rw [ho] at ho'
        cases ho'
        walk_at "rd"
        refine ⟨rfl, ?_⟩
        walk_at "rd"
        exact ⟨_, _, _, rfl, kin_same hk (S1.trans S2), hR H2 (Same.refl _)⟩
      · have hD : H2 D = some (.lst ((os.map fun o => belB o k).map V.bl)) := by rw [hD, List.map_map]; rfl
        walk_at "rd"
        refine rd_all hD ?_
        walk_at "rd"
        have e : (os.map fun o => belB o k).all id = false := by rw [List.all_map]; exact b
        rw [e]
        refine iteT' rfl ?_
        walk_at "rd"
        exact hQ H2 (S1.trans S2)
    | @nums t sx b l =>
      refine ⟨x, some _, rfl, sx, fun H1 S1 => ?_⟩
      walk_at "rd"
      refine iteF' rfl ?_
      walk_at "rd"
      obtain ⟨a, rfl, hor⟩ := SqX.any sx
      refine lcv_both (xs := t.map V.int) (t.map fun o => V.bl true) (sqx_same sx S1) (by intro R r; exact rd_var rfl r) (by rw [List.length_map, List.length_map]) (by rw [List.length_map]; omega) (fun i y z H2 hy hz S2 R hR => ?_) (fun H2 D S2 hD => ?_) rfl
      · rw [List.getElem?_map] at hz
        obtain ⟨o, ho, rfl⟩ := Option.map_eq_some_iff.mp hz
        rw [List.getElem?_map, ho] at hy
        cases hy
        obtain ⟨b0, b1⟩ := b o (List.mem_of_getElem? ho)
        walk_at "rd"
        refine ⟨rfl, ?_⟩
        walk_at "rd"
        refine ⟨_, some o, _, rfl, .int o, ?_⟩
        rw [belB_true b0 b1]
        exact hR H2 (Same.refl _)
      · have hD : H2 D = some (.lst ((t.map fun _ => true).map V.bl)) := by rw [hD, List.map_map]; rfl
        walk_at "rd"
        refine rd_all hD ?_
        walk_at "rd"
        have e : (t.map fun _ => true).all id = true := by rw [List.all_map]; exact List.all_eq_true.mpr fun _ _ => rfl
        rw [e]
        refine iteF' rfl ?_
        walk_at "rd"
        refine rd_sortB (sqx_same sx (S1.trans S2)) l fun ns' pm srt => ?_
        intro u H3 u0 S3 hu
        have en := sortI_of pm srt
        subst en
        walk_at "rd"
        refine rd_lstRg ?_
        walk_at "rd"
        refine ⟨RgOk.of_le (by omega) (by omega) (by omega) (by omega), fun q hq => ?_⟩
        rw [rg_ints]
        have S4 : Same H3 (upd H3 q (.lst ((rangeI k).map V.int))) := Same.fresh hq
        have hq4 : upd H3 q (.lst ((rangeI k).map V.int)) q = some (.lst ((rangeI k).map V.int)) := upd_same
        refine ⟨_, _, dp_ints (S4 _ _ hu), dp_ints hq4, sh_ints _, sh_ints _, ?_⟩
        rw [show PyData.eqv (.list ((sortI t).map PyData.int)) (.list ((rangeI k).map PyData.int)) = decide (sortI t = rangeI k) from dA_eqv _ _]
        exact hQ _ (((S1.trans S2).trans S3).trans S4)
theorem G_turned_over : FnOk P w K mg base CX0 8 T.f_turned_over T.d_turned_over ["network", "copies", "turns"] (spTO K T.c_Network) := by
  refine T.F_turned_over.ok sc_turned_over (fun vs H Q E h => ?_) fun cdv A outer s H vs Q E hr h => ⟨_, (pss_cons (ps_setLc2 (i := 3) (own := [("mode", 8), ("_", 9)]) (vs1 := [9]) (by rfl) sc_turned_over.nd rfl rfl (sw_true rfl rfl rfl (by decide +kernel)) (pi_tupK (K := K) (pe_fldK (K := K) (pv 0))) (blkOk_by (own := [("mode", 8), ("_", 9)]) (N := N_turned_over) (sc := defScope s_turned_over) (by decide +kernel)) (by decide) (fun _ _ _ _ _ => (pg_name (i := 8) sc_turned_over.nd rfl (.inl rfl))) (fun _ _ _ _ _ => pts_nil) (fun _ _ _ _ _ => (by exact (pi_range1 (by rfl) T.n_range (by exact (pa_cons (pv 1) pa_nil))))) (fun _ _ _ _ _ => (pg_name (i := 9) sc_turned_over.nd rfl (.inl rfl))) (fun _ _ _ _ _ => pts_nil) (fun _ _ _ _ _ => (pv 8)) ) (pss_cons (ps_set (i := 4) sc_turned_over.nd rfl (.inl rfl) (pe_lst pa_nil)) (pss_cons (ps_for PassesOwn.never rfl (pi_zipTX (K := K) (by rfl) T.n_zip (by exact (pa_cons (pe_fldK (K := K) (pv 0)) (pa_cons (pv 2) pa_nil)))) (pg_tupK (K := K) (n := 2) (by rfl) (pgs_cons (pg_tupK (K := K) (n := 2) (by rfl) (pgs_cons (pg_name (i := 5) sc_turned_over.nd rfl (.inr rfl)) (pgs_cons (pg_name (i := 6) sc_turned_over.nd rfl (.inr rfl)) pgs_nil))) (pgs_cons (pg_name (i := 7) sc_turned_over.nd rfl (.inl rfl)) pgs_nil))) (pss_one (ps_expr (pe_bmK (K := K) PySem.F.slot_list_extend PySem.F.type_list_extend mt_extend (pv 4) (by exact (pa_cons (by exact (pe_lc (own := [("at", 10), ("to", 11)]) (by rfl) sc_turned_over.nd (PI.or (pi_enumK (K := K) (by rfl) T.n_enumerate (by exact (pa_cons (pv 7) pa_nil))) (pi_enumTK (K := K) (by rfl) T.n_enumerate (by exact (pa_cons (pv 7) pa_nil)))) (blkOk_by (own := [("at", 10), ("to", 11)]) (N := N_turned_over) (sc := defScope s_turned_over) (by decide +kernel)) (fun _ _ _ _ _ => (pg_tupK (K := K) (n := 2) (by rfl) (pgs_cons (pg_name (i := 10) sc_turned_over.nd rfl (.inl rfl)) (pgs_cons (pg_name (i := 11) sc_turned_over.nd rfl (.inl rfl)) pgs_nil)))) (fun _ _ _ _ _ => pts_nil) (fun _ _ _ _ _ => (pe_tup (pa_cons (pe_op op_add (pe_op op_mul (pv 5) (pv 1)) (pv 10)) (pa_cons (pe_op op_add (pe_op op_mul (pv 6) (pv 1)) (pv 11)) pa_nil)))) )) pa_nil)))))) (pss_one (ps_ret (pe_make T.M_Network (G_Network_init T) (hr.mono (by decide)) (by rfl) T.m_Network T.b_Network_init .nil passL (by exact (pa_cons (pv 3) (pa_cons (pv 4) pa_nil))))))))), ?_⟩
  · obtain ⟨p, z, k, ms, L, xs, ts, rfl, _⟩ := h
    rfl
  · obtain ⟨p, z, k, ms, L, xs, ts, rfl, hN, ov, sz, pt, lt, ht, hQ⟩ := h
    obtain ⟨dx, pm, pn, pl, qs, ps, hp, hm, _, _, hl, pL⟩ := hN.ob
    have lp := paired_len pL
    have lx := paired_len pt
    have k9 := ov.k9
    have mz := ov.mz
    have lk := ov.lk
    have k0 := ov.k0
    walk_at "rd"
    unfold tLc2
    walk_at "rd"
    refine ⟨p, _, dx, _, _, rfl, hp, T.C_Network, T.A_Network_modes, look_modes, ?_⟩
    walk_at "rd"
    refine ⟨pm, rfl, ⟨_, hm.sq⟩, fun D hD => ?_⟩
    refine it_wk (walk_tup (K := K) (xs := ms.map V.int)) (fun i H' => Same H H' ∧ H' D = some (.lst ((timesL k (ms.take i)).map V.int))) ⟨Same.fresh hD, upd_same⟩ (fun i H' _ pv => (hm.same pv.1).sq) (fun i v H1 H2 hi pv y => ?_) (fun H1 pv => ?_)
    · obtain ⟨rfl, hx⟩ := y
      obtain ⟨S1, hD1⟩ := pv
      rw [List.length_map] at hi
      rw [List.getElem?_map] at hx
      obtain ⟨m, hmi, rfl⟩ := Option.map_eq_some_iff.mp hx
      have lt : (timesL k (ms.take i)).length ≤ 1000 := by
        rw [times_len, List.length_take]
        have : min i ms.length * k ≤ ms.length * k := Nat.mul_le_mul_right k (by omega)
        omega
      walk_at "rd"
      refine ⟨rfl, ?_⟩
      walk_at "rd"
      refine ⟨by omega, by omega, ?_⟩
      refine it_wk (walk_rng (lo := 0) (n := k)) (fun j H' => Same H H' ∧ H' D = some (.lst ((timesL k (ms.take i) ++ List.replicate j m).map V.int))) ⟨S1, by rw [List.replicate_zero, List.append_nil]; exact hD1⟩ (fun j H' _ _ => trivial) (fun j v H3 H4 hj pv y => ?_) (fun H3 pv => ?_)
      · obtain ⟨rfl, rfl⟩ := y
        obtain ⟨S3, hD3⟩ := pv
        walk_at "rd"
        refine ⟨rfl, ?_⟩
        walk_at "rd"
        refine ⟨_, hD3, ?_, Same.put S3 hD, ?_⟩
        · rw [List.length_map, List.length_append, List.length_replicate]
          exact Nat.lt_of_le_of_lt (by omega : _ ≤ 2000) (by decide)
        · rw [upd_same]; simp [List.replicate_succ']
      · obtain ⟨S3, hD3⟩ := pv
        rw [← times_take hmi] at hD3
        exact ⟨S3, hD3⟩
    · obtain ⟨S1, hD1⟩ := pv
      rw [List.length_map, List.take_length] at hD1
      walk_at "rd"
      intro lk' H2 l0 S2 hlk
      walk_at "rd"
      have S12 := S1.trans S2
      have l00 : H lk' = none := S1.free l0
      have hD2 := S2 _ _ hD1
      have Dl : D ≠ lk' := fun z => by rw [z, l0] at hD1; cases hD1
      have N2 := net_same hN S12
      have dxp := S12 _ _ hp
      obtain ⟨zb, hzb⟩ := sz.b
      refine for_zipTX (xs := ps.map V.ref) (ys := xs) (Tup.of (S12 _ _ hl)) (hzb.same S12) (by rw [List.length_map]; omega) (fun QA q => ?_)
        (fun i σ H' => (∃ o5 o6 o7 o8 o9 o10 o11, σ = [some (.ref p), some (.int (k : Nat)), some z, some (.ref D), some (.ref lk'), o5, o6, o7, o8, o9, o10, o11]) ∧ Same H H' ∧ H' D = some (.lst ((timesL k ms).map V.int)) ∧ ∃ qs' : List Addr, H' lk' = some (.lst (qs'.map V.ref)) ∧ Paired (PairAt H') qs' (lift k (L.take i) (ts.take i)))
        ⟨⟨_, _, _, _, _, _, _, rfl⟩, S12, hD2, [], hlk, .nil⟩ (fun i σ H' pv => ?_) (fun i u y Tt σ H3 H4 hu hy pv hT S4 hTt => ?_) (fun σ H3 pv => ?_)
      · walk_at "rd"
        refine ⟨p, _, dx, _, _, rfl, dxp, T.C_Network, T.A_Network_links, look_links, ?_⟩
        walk_at "rd"
        exact q
      · exact ⟨Tup.of (pv.2.1 _ _ hl), hzb.same pv.2.1⟩
      · obtain ⟨⟨o5, o6, o7, o8, o9, o10, o11, rfl⟩, S3, hD3, qs', hqs, pq⟩ := pv
        rw [List.getElem?_map] at hu
        obtain ⟨a, ha, rfl⟩ := Option.map_eq_some_iff.mp hu
        obtain ⟨e, he, hae⟩ := paired_get pL ha
        obtain ⟨t, hti, hyt⟩ := paired_get pt hy
        have hturn := ht t (List.mem_of_getElem? hti)
        have ltt := hturn.len
        have S34 := S3.trans S4
        have hae4 : H4 a = some (.tup [.int e.1, .int e.2]) := S34 _ _ hae
        have lq := paired_len pq
        have ll : (lift k (L.take i) (ts.take i)).length ≤ 10000 := by
          have h1 := lift_len k (L.take i) (ts.take i)
          have h2 : (L.take i).length * k ≤ L.length * k := Nat.mul_le_mul_right k (by rw [List.length_take]; omega)
          omega
        refine rd_gtup (Tup.of hTt) rfl ?_
        walk_at "rd"
        refine rd_gtup (Tup.of hae4) rfl ?_
        walk_at "rd"
        refine rd_ty (S4 _ _ hqs) ?_
        refine rd_cons ?_
        refine lc_enumX (x := y) (xs := t.map V.int) (sqx_same hyt S34) (fun QA q => ?_) (fun D3 j H' => Same H4 H' ∧ ∃ rs : List Addr, H' D3 = some (.lst (rs.map V.ref)) ∧ Paired (PairAt H') rs ((List.range j).map (fun c => (e.1 * k + ((c : Nat) : Int), e.2 * k + atT t c))))
          (fun D3 h => ⟨Same.fresh h, [], upd_same, .nil⟩) (fun D3 j H' _ pv => pv.1) (fun D3 j y' T5 H5 H6 hD3' hy' pv hT5 S6 hT6 => ?_) (fun D3 H5 hD3' pv => ?_)
        · walk_at "rd"
          exact q
        · obtain ⟨S5, rs, hrs, pr⟩ := pv
          rw [List.getElem?_map] at hy'
          obtain ⟨c, hc, rfl⟩ := Option.map_eq_some_iff.mp hy'
          have hj : j < k := by have := (List.getElem?_eq_some_iff.mp hc).1; omega
          have ec : atT t j = c := by unfold atT; rw [List.getD_eq_getElem?_getD, hc]; rfl
          refine rd_gtup (Tup.of hT6) rfl ?_
          walk_at "rd"
          refine ⟨rfl, ?_⟩
          walk_at "rd"
          refine rd_rI (.inr ⟨by omega, by omega⟩) ?_
          walk_at "rd"
          refine rd_rI (.inr ⟨by omega, by omega⟩) ?_
          walk_at "rd"
          intro v H7 v0 S7 hv
          have S67 := S6.trans S7
          have hrs7 := S67 _ _ hrs
          have lr := paired_len pr
          rw [List.length_map, List.length_range] at lr
          have nv : v ≠ D3 := fun w => by rw [w, S6 _ _ hrs] at v0; cases v0
          refine ⟨_, hrs7, ?_, same_put (S5.trans S67) hD3', rs ++ [v], by rw [upd_same]; simp, ?_⟩
          · rw [List.length_map, lr]
            exact Nat.lt_of_le_of_lt (by omega : j ≤ 1000) (by decide)
          · rw [fib_take]
            refine pairs_upd (pairs_snoc (pairs_same pr S67) ?_) hrs7
            show H7 v = _
            rw [hv, ec]
        · obtain ⟨S5, rs, hrs, pr⟩ := pv
          rw [List.length_map, ltt] at pr
          have lr := paired_len pr
          rw [List.length_map, List.length_range] at lr
          have hqs5 := S5 _ _ (S4 _ _ hqs)
          walk_at "rd"
          refine ⟨lk', D3, _, _, rfl, rfl, hqs5, hrs, ?_, ?_⟩
          · rw [List.length_map, List.length_map, lq, lr]
            exact Nat.le_trans (by omega : _ ≤ 20000) (by decide)
          have S35 := S4.trans S5
          walk_at "rd"
          refine ⟨⟨_, _, _, _, _, _, _, rfl⟩, same_put (S3.trans S35) l00, ?_, qs' ++ rs, by rw [upd_same, List.map_append], ?_⟩
          · rw [upd_ne Dl]; exact S35 _ _ hD3
          · rw [lift_take lt.symm he hti]
            exact pairs_upd (paired_append (pairs_same pq S35) pr) hqs5
      · obtain ⟨⟨o5, o6, o7, o8, o9, o10, o11, rfl⟩, S3, hD3, qs', hqs, pq⟩ := pv
        have e1 : L.take (ps.map V.ref).length = L := List.take_of_length_le (by rw [List.length_map]; omega)
        have e2 : ts.take (ps.map V.ref).length = ts := List.take_of_length_le (by rw [List.length_map]; omega)
        rw [e1, e2] at pq
        obtain ⟨L', g', s', p', n', hn⟩ := lift_net k0 ov.g ov.srt lt.symm ht
        have gd := lift_gd k0 ov.g ov.srt lt.symm ht
        walk_at "rd"
        refine rd_make ?_
        walk_at "rd"
        intro s1 dx1 hs1 hd1 _
        have lm := times_len k ms
        refine net_goodR hs1 hd1 (.lst hD3) (ne_nil (by rw [lm]; exact Nat.mul_pos ov.m0 k0)) (by omega) (fun m hm' => ?_) (.lst hqs) (lk_any pq (by rw [lm]; exact gd.rng)) (by rw [lm]; exact g') s' n' (fun H4 S4 N4 => ⟨rfl, ?_⟩)
        · unfold timesL at hm'
          obtain ⟨l, hl1, hl2⟩ := List.mem_flatten.mp hm'
          obtain ⟨m', hm1, rfl⟩ := List.mem_map.mp hl1
          rw [List.eq_of_mem_replicate hl2]
          exact ov.mb m' hm1
        · walk_at "rd"
          exact hQ H4 s1 (S3.trans S4) ⟨L', N4, g', s', p', hn⟩
end
end K71

namespace K71
open PySem PySem.Spec PyProof.Rows L2 KX RZ
local macro_rules | `(tactic| walk_at "rd1") => `(tactic| first
  | with_reducible refine rd_seq ?_
  | with_reducible refine rd_for ?_
  | with_reducible refine rd_lc ?_
  | with_reducible refine rd_asg ?_
  | ((with_reducible refine' rd_var ?rdv ?_); (case rdv => exact rfl))
  | with_reducible refine rd_c ?_
  | with_reducible refine rd_op ?_
  | with_reducible refine rd_un ?_
  | with_reducible refine rd_cons ?_
  | with_reducible refine rd_nil ?_
  | with_reducible refine rd_call ?_
  | with_reducible refine rd_cb ?_
  | with_reducible refine rd_tB ?_
  | with_reducible refine rd_test ?_
  | with_reducible refine rd_bl ?_
  | with_reducible refine rd_rI0 ?_
  | with_reducible refine rd_eqI ?_
  | with_reducible refine rd_neI ?_
  | with_reducible refine rd_rU ?_
  | with_reducible refine rd_name ?_
  | with_reducible refine rd_ifs ?_
  | with_reducible refine rd_and ?_
  | with_reducible refine rd_or ?_
  | with_reducible refine rd_not ?_
  | with_reducible refine rd_yes ?_
  | with_reducible refine rd_andV ?_
  | with_reducible refine rd_orV ?_
  | with_reducible refine rd_notV ?_
  | with_reducible refine rd_if ?_
  | with_reducible refine rd_isN ?_
  | with_reducible refine rd_iT ?_
  | with_reducible refine rd_iF ?_
  | with_reducible refine rd_ret ?_
  | with_reducible refine rd_retN ?_
  | with_reducible refine rd_drop ?_
  | with_reducible refine rd_next ?_
  | with_reducible refine rd_cont ?_
  | with_reducible refine rd_brk ?_
  | with_reducible refine rd_nx ?_
  | with_reducible refine rd_rt ?_
  | with_reducible refine rd_ct ?_
  | with_reducible refine rd_bk ?_
  | with_reducible refine rd_par ?_
  | with_reducible refine rd_par3 ?_
  | with_reducible refine rd_par2 ?_
  | with_reducible refine rd_par33 ?_
  | with_reducible refine rd_gcons ?_
  | with_reducible refine rd_gnil ?_
  | with_reducible refine rd_sub ?_
  | with_reducible refine rd_tup ?_
  | with_reducible refine rd_lst ?_
  | ((with_reducible refine rd_tupT ?hl ?_); (case hl => exact Nat.le_of_ble_eq_true rfl))
  | ((with_reducible refine rd_lstT ?hl ?_); (case hl => exact Nat.le_of_ble_eq_true rfl))
  | with_reducible refine rd_bm ?_
  | with_reducible refine rd_bm0 ?_
  | with_reducible refine rd_sl ?_
  | with_reducible refine rd_noP ?_
  | with_reducible refine rd_part ?_
  | with_reducible refine rd_int ?_
  | with_reducible refine rd_int1 ?_
  | with_reducible refine rd_fld ?_
  | with_reducible refine rd_then ?_
  | with_reducible refine rd_raise ?_
  | with_reducible refine rd_one ?_
  | with_reducible refine rd_sfld ?_
  | with_reducible refine rd_ilist ?_
  | with_reducible refine rd_itup ?_
  | with_reducible refine rd_rng1 ?_
  | with_reducible refine rd_enum ?_
  | with_reducible refine rd_enumT ?_)
local macro_rules | `(tactic| walk_at "rd") => `(tactic| repeat (walk_at "rd1"))
/-- the first that is wrong -/
def BadB (cs : List Bool) (i : Nat) : Prop := cs[i]? = some false ∧ ∀ j, j < i → cs[j]? = some true
def spCover (K : PySem.W.Frag) (C CQ CR : Addr) : L2.Sp := fun vs H Q E => ∃ (p : Addr) (y z : V) (ms : List Int) (L : List (Int × Int)) (o : Option Int) (zo : Option (List V)), vs = [.ref p, y, z] ∧ NetL C H p ms L ∧ Kin K H y o ∧ SqX K H z zo ∧
  (okC o = false → ErrAt CQ E H 1) ∧ (okC o = true → ((zo = none ∨ ∃ xs, zo = some xs ∧ xs.length ≠ L.length) → ErrAt CQ E H 2) ∧ (∀ xs, zo = some xs → xs.length = L.length → ∃ (k : Nat) (cs : List Bool), y = .int (k : Nat) ∧ k ≤ 1000 ∧ Paired (TurnX K H k) xs cs ∧
    (∀ i, BadB cs i → ErrAt CR E H i) ∧ ((∀ c ∈ cs, c = true) → ∃ ts, Ov ms L k ∧ Paired (TurnAt K H) xs ts ∧ (∀ t ∈ ts, IsTurn k t) ∧ ∀ H' s, Same H H' → Made C H' s ms L k ts → Q (.ref s) H')))
section
variable {P : Program} {w : World} {K : PySem.W.Frag} {mg : Str → Option Value} {base : Heap} (T : TX K mg)
theorem G_cover : FnOk P w K mg base (L2.CX P w) 9 T.f_cover T.d_cover ["network", "copies", "turns"] (spCover K T.c_Network T.c_InvalidQuestion T.c_Refused) := by
  refine T.F_cover.okX sc_cover (fun vs H Q E h => ?_) fun cdv A outer s H vs Q E hr h => ⟨_, (pss_cons (ps_expr (pe_call (G_check_copies T) (hr.mono (by decide)) (by rfl) T.m_check_copies T.F_check_copies.kp T.b_check_copies .nil (passes_call (takes_of rfl rfl rfl rfl) fun _ _ _ _ z => z) (by exact (pa_cons (pv 0) (pa_cons (pv 1) (pa_cons (pv 2) pa_nil)))))) (pss_cons (ps_for (passes_of rfl) rfl (PI.or (pi_enumK (K := K) (by rfl) T.n_enumerate (by exact (pa_cons (pv 2) pa_nil))) (pi_enumTK (K := K) (by rfl) T.n_enumerate (by exact (pa_cons (pv 2) pa_nil)))) (pg_tupK (K := K) (n := 2) (by rfl) (pgs_cons (pg_name (i := 3) sc_cover.nd rfl (.inl rfl)) (pgs_cons (pg_name (i := 4) sc_cover.nd rfl (.inl rfl)) pgs_nil))) (pss_one (ps_if (pt_not (pt_val (pe_call (G_is_turn T) (hr.mono (by decide)) (by rfl) T.m_is_turn T.F_is_turn.kp T.b_is_turn .nil pass0 (by exact (pa_cons (pv 4) (pa_cons (pv 1) pa_nil)))))) (pss_one (ps_raiseErrZ rfl T.E_Refused hr (takes_of rfl rfl rfl rfl) (by exact (pa_cons (pv 3) pa_nil)))) pss_nil))) (pss_one (ps_ret (pe_call (G_turned_over T) (hr.mono (by decide)) (by rfl) T.m_turned_over T.F_turned_over.kp T.b_turned_over .nil pass0 (by exact (pa_cons (pv 0) (pa_cons (pv 1) (pa_cons (pv 2) pa_nil))))))))), ?_⟩
  · obtain ⟨p, y, z, ms, L, o, zo, rfl, _⟩ := h
    rfl
  · obtain ⟨p, y, z, ms, L, o, zo, rfl, hN, ky, sz, h1, h2⟩ := h
    walk_at "rd"
    refine ⟨p, y, z, ms, L, o, zo, rfl, hN, ky, sz, fun e H1 d S1 hd => ?_, fun e => ⟨fun e2 H1 d S1 hd => ?_, fun xs e2 e3 H1 S1 => ?_⟩⟩
    · exact h1 e H1 d S1 hd
    · exact (h2 e).1 e2 H1 d S1 hd
    · obtain ⟨k, cs, rfl, k9, pc, hbad, hgood⟩ := (h2 e).2 xs e2 e3
      subst e2
      have lc := paired_len pc
      walk_at "rd"
      obtain ⟨zb, hzb⟩ := sz.b
      refine for_enumX (hzb.same S1) (fun R r => rd_cons (rd_var rfl (rd_nil r))) (fun i σ H' => (∃ o3 o4, σ = [some (.ref p), some (.int (k : Nat)), some z, o3, o4]) ∧ Same H H' ∧ ∀ j, j < i → cs[j]? = some true)
        ⟨⟨_, _, rfl⟩, S1, fun j h => absurd h (by omega)⟩ (fun i σ H' pv => hzb.same pv.2.1) (fun i v σ H2 Tt H3 hv pv hT S3 hTt => ?_) (fun σ H2 pv => ?_)
      · obtain ⟨⟨o3, o4, rfl⟩, S2, hb⟩ := pv
        obtain ⟨c, hc, hx⟩ := paired_get pc hv
        have S23 := S2.trans S3
        refine rd_gtup (Tup.of hTt) rfl ?_
        walk_at "rd"
        refine ⟨v, k, c, rfl, hx.same S23, k9, fun H4 S4 => ?_⟩
        walk_at "rd"
        cases c with
        | true =>
          refine iteF' rfl ?_
          walk_at "rd"
          refine ⟨⟨_, _, rfl⟩, S23.trans S4, fun j hj => ?_⟩
          by_cases e : j = i
          · rw [e]; exact hc
          · exact hb j (by omega)
        | false =>
          refine iteT' rfl ?_
          walk_at "rd"
          exact fun d hd => hbad i ⟨hc, hb⟩ H4 d (S23.trans S4) hd
      · obtain ⟨⟨o3, o4, rfl⟩, S2, hb⟩ := pv
        obtain ⟨ts, ov, pt, ht, hQ⟩ := hgood fun c hc => by
          obtain ⟨i, hi⟩ := List.getElem?_of_mem hc
          have := hb i (by have := (List.getElem?_eq_some_iff.mp hi).1; omega)
          rw [hi] at this
          exact Option.some.inj this
        walk_at "rd"
        refine ⟨p, z, k, ms, L, xs, ts, rfl, net_same hN S2, ov, sqx_same sz S2, paired_mono pt fun _ _ q => sqx_same q S2, by rw [← paired_len pt]; exact e3, ht, fun H3 s' S3 hM => hQ H3 s' (S2.trans S3) hM⟩
end
/-- the turn that a shift makes -/
def shiftT (k : Nat) (s : Int) : List Int := (rangeI k).map fun c => (c + s) % (k : Int)
theorem shift_len (k : Nat) (s : Int) : (shiftT k s).length = k := by unfold shiftT; rw [List.length_map, rangeI_len]
theorem shift_turn {k : Nat} (hk : 0 < k) (s : Int) : IsTurn k (shiftT k s) := by
  refine ⟨?_⟩
  have r0 : 0 ≤ s % (k : Int) := Int.emod_nonneg _ (by omega)
  have r1 : s % (k : Int) < k := Int.emod_lt_of_pos _ (by omega)
  have e : shiftT k s = (rangeI k).drop (s % (k : Int)).toNat ++ (rangeI k).take (s % (k : Int)).toNat := by
    refine List.ext_getElem (by rw [shift_len, List.length_append, List.length_drop, List.length_take, rangeI_len]; omega) fun i h1 h2 => ?_
    rw [shift_len] at h1
    have get : ∀ j (h : j < (rangeI k).length), (rangeI k)[j] = ((j : Nat) : Int) := fun j h => by simp [rangeI]
    have e1 : (shiftT k s)[i]'(by rw [shift_len]; exact h1) = (((i : Nat) : Int) + s) % (k : Int) := by simp [shiftT, rangeI]
    rw [e1, Int.add_emod, Int.emod_eq_of_lt (by omega : (0 : Int) ≤ (i : Nat)) (by omega)]
    by_cases c : i < k - (s % (k : Int)).toNat
    · rw [List.getElem_append_left (by rw [List.length_drop, rangeI_len]; exact c), List.getElem_drop, get, Int.emod_eq_of_lt (by omega) (by omega)]
      omega
    · rw [List.getElem_append_right (by rw [List.length_drop, rangeI_len]; omega), List.getElem_take, get, List.length_drop, rangeI_len]
      have : ((i : Nat) : Int) + s % (k : Int) = (((i : Nat) : Int) + s % (k : Int) - k) + k := by omega
      rw [this, Int.add_emod_right, Int.emod_eq_of_lt (by omega) (by omega)]
      omega
  rw [e]
  refine List.perm_append_comm.trans ?_
  rw [List.take_append_drop]
/-- a comprehension over a list or a tuple -/
theorem lcx_both {K : PySem.W.Frag} {g : TG} {te ti : TE} {vs : List Nat} {σ : L2.St} {H : Hp} {x : V} {xs : List V} {Q : Addr → Hp → Prop} (hx : SqX K H x (some xs)) (hi : ∀ R : VK, R x H → ti σ H R)
    (Pv : Addr → Nat → Hp → Prop) (h0 : ∀ D, H D = none → Pv D 0 (upd H D (.lst []))) (hk : ∀ D i H', H D = none → Pv D i H' → Same H H')
    (hs : ∀ (D : Addr) (i : Nat) (y : V) (H' : Hp), H D = none → xs[i]? = some y → Pv D i H' → g y (wipe σ vs) H' fun σ2 H2 => wipe σ2 vs = wipe σ vs ∧ te σ2 H2 fun y H4 => ∃ acc, H4 D = some (.lst acc) ∧ acc.length < sizeLine ∧ Pv D (i + 1) (upd H4 D (.lst (acc ++ [y]))))
    (hd : ∀ D H', H D = none → Pv D xs.length H' → Q D H') {R : It → Hp → Prop} (hR : R = fun J H1 => ∀ D, H1 D = none → ∃ W : Nat → Nat → Hp → Prop, (∃ m, W 0 m (upd H1 D (.lst []))) ∧ ∀ i m H, W i m H →
      (J.stop i H ∧ Q D H) ∨ (J.go i H ∧ ∃ Nx : Hp → Prop, (∀ H', Nx H' → ∃ m', m' < m ∧ W (i + 1) m' H') ∧ ∀ x H', J.yld i H x H' → g x (wipe σ vs) H' fun σ2 H2 => wipe σ2 vs = wipe σ vs ∧ tYes σ2 H2 fun b H3 =>
        if b = true then te σ2 H3 fun y H4 => ∃ acc, H4 D = some (.lst acc) ∧ acc.length < sizeLine ∧ Nx (upd H4 D (.lst (acc ++ [y]))) else Nx H3)) : iList K ti σ H R ∨ iTup K ti σ H R := by
  subst hR
  have st : ∀ D, H D = none → ∀ i v H1 H2, i < xs.length → Pv D i H1 → (H2 = H1 ∧ xs[i]? = some v) → g v (wipe σ vs) H2 fun σ2 H2 => wipe σ2 vs = wipe σ vs ∧ tYes σ2 H2 fun b H3 =>
      if b = true then te σ2 H3 fun y H4 => ∃ acc, H4 D = some (.lst acc) ∧ acc.length < sizeLine ∧ Pv D (i + 1) (upd H4 D (.lst (acc ++ [y]))) else Pv D (i + 1) H3 := by
    rintro D hD i v H1 H2 _ hp ⟨rfl, hv⟩
    exact hs D i v H2 hD hv hp
  cases hx with
  | lst ha => exact .inl (hi _ ⟨_, rfl, ⟨_, SqL.of ha⟩, fun D hD => lc_it (walk_list (K := K) (xs := xs)) (Pv D) (h0 D hD) (fun i H' _ p => SqL.of (hk D i H' hD p _ _ ha)) (st D hD) (fun H' p => hd D H' hD p)⟩)
  | tup ha => exact .inr (hi _ ⟨_, rfl, ⟨_, ha.sq⟩, fun D hD => lc_it (walk_tup (K := K) (xs := xs)) (Pv D) (h0 D hD) (fun i H' _ p => (ha.same (hk D i H' hD p)).sq) (st D hD) (fun H' p => hd D H' hD p)⟩)
theorem paired_mapL {α β γ : Type} {F : β → γ → Prop} {f : α → β} {l : List α} {m : List γ} (h : Paired (fun a c => F (f a) c) l m) : Paired F (l.map f) m := by
  induction h with
  | nil => exact .nil
  | cons a _ ih => exact .cons a ih
/-- fresh lists of numbers, none of them D -/
def FreshT (D : Addr) (H : Hp) (q : Addr) (t : List Int) : Prop := H q = some (.lst (t.map V.int)) ∧ q ≠ D
theorem freshs_same {D : Addr} {H H' : Hp} {l : List Addr} {m : List (List Int)} (h : Paired (FreshT D H) l m) (S : Same H H') : Paired (FreshT D H') l m := paired_mono h fun _ _ q => ⟨S _ _ q.1, q.2⟩
theorem freshs_upd {D : Addr} {H : Hp} {o : HO} {l : List Addr} {m : List (List Int)} (h : Paired (FreshT D H) l m) : Paired (FreshT D (upd H D o)) l m := paired_mono h fun _ _ q => ⟨by rw [upd_ne q.2]; exact q.1, q.2⟩
theorem freshs_turn {K : PySem.W.Frag} {D : Addr} {H : Hp} {l : List Addr} {m : List (List Int)} (h : Paired (FreshT D H) l m) : Paired (TurnAt K H) (l.map V.ref) m := paired_mapL (paired_mono h fun _ _ q => .lst q.1)
def intB : Option Int → Bool
  | some _ => true
  | none => false
def spShifted (K : PySem.W.Frag) (C CQ CR : Addr) : L2.Sp := fun vs H Q E => ∃ (p : Addr) (y z : V) (ms : List Int) (L : List (Int × Int)) (o : Option Int) (zo : Option (List V)), vs = [.ref p, y, z] ∧ NetL C H p ms L ∧ Kin K H y o ∧ SqX K H z zo ∧
  (okC o = false → ErrAt CQ E H 1) ∧ (okC o = true → ((zo = none ∨ ∃ xs, zo = some xs ∧ xs.length ≠ L.length) → ErrAt CQ E H 2) ∧ (∀ xs, zo = some xs → xs.length = L.length → ∃ (k : Nat) (os : List (Option Int)), y = .int (k : Nat) ∧ k ≤ 1000 ∧ Paired (Kin K H) xs os ∧
    (∀ i, BadB (os.map intB) i → ErrAt CR E H i) ∧ ((∀ o ∈ os, intB o = true) → ∃ ss : List Int, Ov ms L k ∧ xs = ss.map V.int ∧ ss.length < 1000 ∧ ∀ H' s, Same H H' → Made C H' s ms L k (ss.map (shiftT k)) → Q (.ref s) H')))
section
variable {P : Program} {w : World} {K : PySem.W.Frag} {mg : Str → Option Value} {base : Heap} (T : TX K mg)
theorem G_shifted : FnOk P w K mg base (L2.CX P w) 9 T.f_shifted T.d_shifted ["network", "copies", "shifts"] (spShifted K T.c_Network T.c_InvalidQuestion T.c_Refused) := by
  refine T.F_shifted.okX sc_shifted (fun vs H Q E h => ?_) fun cdv A outer s H vs Q E hr h => ⟨_, (pss_cons (ps_expr (pe_call (G_check_copies T) (hr.mono (by decide)) (by rfl) T.m_check_copies T.F_check_copies.kp T.b_check_copies .nil (passes_call (takes_of rfl rfl rfl rfl) fun _ _ _ _ z => z) (by exact (pa_cons (pv 0) (pa_cons (pv 1) (pa_cons (pv 2) pa_nil)))))) (pss_cons (ps_for (passes_of rfl) rfl (PI.or (pi_enumK (K := K) (by rfl) T.n_enumerate (by exact (pa_cons (pv 2) pa_nil))) (pi_enumTK (K := K) (by rfl) T.n_enumerate (by exact (pa_cons (pv 2) pa_nil)))) (pg_tupK (K := K) (n := 2) (by rfl) (pgs_cons (pg_name (i := 3) sc_shifted.nd rfl (.inl rfl)) (pgs_cons (pg_name (i := 4) sc_shifted.nd rfl (.inl rfl)) pgs_nil))) (pss_one (ps_if (pt_not (pt_val (pe_call (G_is_integer T) (hr.mono (by decide)) (by rfl) T.m_is_integer T.F_is_integer.kp T.b_is_integer .nil pass0 (by exact (pa_cons (pv 4) pa_nil))))) (pss_one (ps_raiseErrZ rfl T.E_Refused hr (takes_of rfl rfl rfl rfl) (by exact (pa_cons (pv 3) pa_nil)))) pss_nil))) (pss_one (ps_ret (pe_call (G_turned_over T) (hr.mono (by decide)) (by rfl) T.m_turned_over T.F_turned_over.kp T.b_turned_over .nil pass0 (by exact (pa_cons (pv 0) (pa_cons (pv 1) (pa_cons (by exact (pe_lc (own := [("shift", 4)]) (by rfl) sc_shifted.nd (PI.or (pi_listK (K := K) (pv 2)) (pi_tupK (K := K) (pv 2))) (blkOk_by (own := [("shift", 4)]) (N := N_shifted) (sc := defScope s_shifted) (by decide +kernel)) (fun _ _ _ _ _ => (pg_name (i := 4) sc_shifted.nd rfl (.inr rfl))) (fun _ _ _ _ _ => pts_nil) (fun _ _ _ _ _ => (by exact (pe_lc (own := [("own", 5)]) (by rfl) sc_shifted.nd (pi_range1 (by rfl) T.n_range (by exact (pa_cons (pv 1) pa_nil))) (blkOk_by (own := [("own", 5)]) (N := N_shifted) (sc := ({ kind := PySem.ScopeKind.function, names := [(PySem.Str.ofString ".0", PySem.NameKind.local), (PySem.Str.ofString "shift", PySem.NameKind.cell), (PySem.Str.ofString "range", PySem.NameKind.globalImplicit), (PySem.Str.ofString "copies", PySem.NameKind.cell)], isGenerator := false, isCoroutine := false, more := [] } : PySem.Scope)) (by decide +kernel)) (fun _ _ _ _ _ => (pg_name (i := 5) sc_shifted.nd rfl (.inl rfl))) (fun _ _ _ _ _ => pts_nil) (fun _ _ _ _ _ => (pe_op op_mod (pe_op op_add (pv 5) (pv 4)) (pv 1))) ))) )) pa_nil))))))))), ?_⟩
  · obtain ⟨p, y, z, ms, L, o, zo, rfl, _⟩ := h
    rfl
  · obtain ⟨p, y, z, ms, L, o, zo, rfl, hN, ky, sz, h1, h2⟩ := h
    walk_at "rd"
    refine ⟨p, y, z, ms, L, o, zo, rfl, hN, ky, sz, fun e H1 d S1 hd => ?_, fun e => ⟨fun e2 H1 d S1 hd => ?_, fun xs e2 e3 H1 S1 => ?_⟩⟩
    · exact h1 e H1 d S1 hd
    · exact (h2 e).1 e2 H1 d S1 hd
    · obtain ⟨k, os, rfl, k9, pc, hbad, hgood⟩ := (h2 e).2 xs e2 e3
      subst e2
      have lc := paired_len pc
      walk_at "rd"
      obtain ⟨zb, hzb⟩ := sz.b
      refine for_enumX (hzb.same S1) (fun R r => rd_cons (rd_var rfl (rd_nil r))) (fun i σ H' => (∃ o3 o4 o5, σ = [some (.ref p), some (.int (k : Nat)), some z, o3, o4, o5]) ∧ Same H H' ∧ ∀ j, j < i → (os.map intB)[j]? = some true)
        ⟨⟨_, _, _, rfl⟩, S1, fun j h => absurd h (by omega)⟩ (fun i σ H' pv => hzb.same pv.2.1) (fun i v σ H2 Tt H3 hv pv hT S3 hTt => ?_) (fun σ H2 pv => ?_)
      · obtain ⟨⟨o3, o4, o5, rfl⟩, S2, hb⟩ := pv
        obtain ⟨c, hc, hx⟩ := paired_get pc hv
        have S23 := S2.trans S3
        refine rd_gtup (Tup.of hTt) rfl ?_
        walk_at "rd"
        refine ⟨v, c, rfl, kin_same hx S23, ?_⟩
        have hcb : (os.map intB)[i]? = some (intB c) := by rw [List.getElem?_map, hc]; rfl
        walk_at "rd"
        cases c with
        | some x =>
          refine iteF' rfl ?_
          walk_at "rd"
          refine ⟨⟨_, _, _, rfl⟩, S23, fun j hj => ?_⟩
          by_cases e : j = i
          · rw [e]; exact hcb
          · exact hb j (by omega)
        | none =>
          refine iteT' rfl ?_
          walk_at "rd"
          exact fun d hd => hbad i ⟨hcb, hb⟩ H3 d S23 hd
      · obtain ⟨⟨o3, o4, o5, rfl⟩, S2, hb⟩ := pv
        obtain ⟨ss, ov, rfl, ls, hQ⟩ := hgood fun c hc => by
          obtain ⟨i, hi⟩ := List.getElem?_of_mem hc
          have := hb i (by have := (List.getElem?_eq_some_iff.mp hi).1; omega)
          rw [List.getElem?_map, hi] at this
          exact Option.some.inj this
        have sz2 := sqx_same sz S2
        have N2 := net_same hN S2
        rw [List.length_map] at e3
        have k0 := ov.k0
        walk_at "rd"
        refine lcx_both sz2 (by intro R r; exact rd_var rfl r) (fun D i H' => Same H2 H' ∧ ∃ qs : List Addr, H' D = some (.lst (qs.map V.ref)) ∧ qs.length = i ∧ Paired (FreshT D H') qs ((ss.take i).map (shiftT k)))
          (fun D h => ⟨Same.fresh h, [], upd_same, rfl, .nil⟩) (fun D i H' _ pv => pv.1) (fun D i y H3 hD hy pv => ?_) (fun D H3 hD pv => ?_) rfl
        · obtain ⟨S3, qs, hqs, lq, pq⟩ := pv
          rw [List.getElem?_map] at hy
          obtain ⟨s0, hs0, rfl⟩ := Option.map_eq_some_iff.mp hy
          have hi : i < ss.length := (List.getElem?_eq_some_iff.mp hs0).1
          refine ⟨rfl, ?_⟩
          show (fun _ => _) true
          walk_at "rd"
          refine ⟨by omega, by omega, fun D2 hD2 => ?_⟩
          have nD : D2 ≠ D := fun w => by rw [w, hqs] at hD2; cases hD2
          refine lcv_rng (n := k) ((shiftT k s0).map V.int) (by rw [List.length_map, shift_len]) (by rw [List.length_map, shift_len]; omega) hD2 (fun j z' H4 hj hz S4 R hR => ?_) (fun H4 S4 e => ?_)
          · refine ⟨rfl, ?_⟩
            walk_at "rd"
            refine rd_rI (by omega) ?_
            have ez : z' = V.int ((0 + (j : Nat) + s0) % (k : Int)) := by
              rw [List.getElem?_map] at hz
              obtain ⟨b, hb, rfl⟩ := Option.map_eq_some_iff.mp hz
              have : (shiftT k s0)[j]? = some ((((j : Nat) : Int) + s0) % (k : Int)) := by simp [shiftT, rangeI, hj]
              rw [hb] at this
              rw [Option.some.inj this, Int.zero_add]
            rw [← ez]
            exact hR H4 (Same.refl H4)
          · refine ⟨_, S4 _ _ hqs, ?_, same_put (S3.trans S4) hD, qs ++ [D2], by rw [upd_same, List.map_append]; rfl, by rw [List.length_append, lq]; rfl, ?_⟩
            · rw [List.length_map, lq]
              exact Nat.lt_of_lt_of_le (by omega : i < 1000) (by decide)
            · have st : ss.take (i + 1) = ss.take i ++ [s0] := by rw [List.take_succ, hs0]; rfl
              rw [st, List.map_append]
              exact freshs_upd (paired_append (freshs_same pq S4) (.cons ⟨e, nD⟩ .nil))
        · obtain ⟨S3, qs, hqs, lq, pq⟩ := pv
          rw [List.length_map] at lq pq
          rw [List.take_length] at pq
          walk_at "rd"
          refine ⟨p, .ref D, k, ms, L, _, ss.map (shiftT k), rfl, net_same N2 S3, ov, .lst hqs, freshs_turn pq, by rw [List.length_map]; exact e3, fun t ht => ?_, fun H4 s4 S4 hM => hQ H4 s4 ((S2.trans S3).trans S4) hM⟩
          obtain ⟨s1, _, rfl⟩ := List.mem_map.mp ht
          exact shift_turn k0 s1
end
end K71

namespace K71
open PySem PySem.Spec PyProof.Rows L2 KX RZ
local macro_rules | `(tactic| walk_at "rd1") => `(tactic| first
  | with_reducible refine rd_seq ?_
  | with_reducible refine rd_for ?_
  | with_reducible refine rd_lc ?_
  | with_reducible refine rd_asg ?_
  | ((with_reducible refine' rd_var ?rdv ?_); (case rdv => exact rfl))
  | with_reducible refine rd_c ?_
  | with_reducible refine rd_op ?_
  | with_reducible refine rd_un ?_
  | with_reducible refine rd_cons ?_
  | with_reducible refine rd_nil ?_
  | with_reducible refine rd_call ?_
  | with_reducible refine rd_cb ?_
  | with_reducible refine rd_tB ?_
  | with_reducible refine rd_test ?_
  | with_reducible refine rd_bl ?_
  | with_reducible refine rd_rI0 ?_
  | with_reducible refine rd_eqI ?_
  | with_reducible refine rd_neI ?_
  | with_reducible refine rd_rU ?_
  | with_reducible refine rd_name ?_
  | with_reducible refine rd_ifs ?_
  | with_reducible refine rd_and ?_
  | with_reducible refine rd_or ?_
  | with_reducible refine rd_not ?_
  | with_reducible refine rd_yes ?_
  | with_reducible refine rd_andV ?_
  | with_reducible refine rd_orV ?_
  | with_reducible refine rd_notV ?_
  | with_reducible refine rd_if ?_
  | with_reducible refine rd_isN ?_
  | with_reducible refine rd_iT ?_
  | with_reducible refine rd_iF ?_
  | with_reducible refine rd_ret ?_
  | with_reducible refine rd_retN ?_
  | with_reducible refine rd_drop ?_
  | with_reducible refine rd_next ?_
  | with_reducible refine rd_cont ?_
  | with_reducible refine rd_brk ?_
  | with_reducible refine rd_nx ?_
  | with_reducible refine rd_rt ?_
  | with_reducible refine rd_ct ?_
  | with_reducible refine rd_bk ?_
  | with_reducible refine rd_par ?_
  | with_reducible refine rd_par3 ?_
  | with_reducible refine rd_par2 ?_
  | with_reducible refine rd_par33 ?_
  | with_reducible refine rd_gcons ?_
  | with_reducible refine rd_gnil ?_
  | with_reducible refine rd_sub ?_
  | with_reducible refine rd_tup ?_
  | with_reducible refine rd_lst ?_
  | ((with_reducible refine rd_tupT ?hl ?_); (case hl => exact Nat.le_of_ble_eq_true rfl))
  | ((with_reducible refine rd_lstT ?hl ?_); (case hl => exact Nat.le_of_ble_eq_true rfl))
  | with_reducible refine rd_bm ?_
  | with_reducible refine rd_bm0 ?_
  | with_reducible refine rd_sl ?_
  | with_reducible refine rd_noP ?_
  | with_reducible refine rd_part ?_
  | with_reducible refine rd_int ?_
  | with_reducible refine rd_int1 ?_
  | with_reducible refine rd_fld ?_
  | with_reducible refine rd_then ?_
  | with_reducible refine rd_raise ?_
  | with_reducible refine rd_one ?_
  | with_reducible refine rd_sfld ?_
  | with_reducible refine rd_ilist ?_
  | with_reducible refine rd_itup ?_
  | with_reducible refine rd_rng1 ?_
  | with_reducible refine rd_enum ?_
  | with_reducible refine rd_enumT ?_)
local macro_rules | `(tactic| walk_at "rd") => `(tactic| repeat (walk_at "rd1"))
def spTn (K : PySem.W.Frag) : L2.Sp := fun vs H Q _ => ∃ (p q : Addr) (k : Nat), vs = [.ref p, .int (k : Nat)] ∧ Deal H p q ∧ 1 ≤ k ∧ k ≤ 12 ∧
  ∀ (H' : Hp) (a : Addr) (t : List Int), Deal H' p q → Fix p q H H' → H a = none → TurnAt K H' (.ref a) t → IsTurn k t → Q (.ref a) H'
section
variable {P : Program} {w : World} {K : PySem.W.Frag} {mg : Str → Option Value} {base : Heap} (T : TX K mg)
theorem G__law_turn : FnOk P w K mg base CX0 2 T.f__law_turn T.d__law_turn ["_law_deal", "_law_copies"] (spTn K) := by
  refine T.F__law_turn.ok sc__law_turn (fun vs H Q E h => ?_) fun cdv A outer s H vs Q E hr h => ⟨_, (pss_cons (ps_par (i := 2) (j := 3) (by rfl) sc__law_turn.nd rfl rfl (by decide) rfl rfl (pa_cons (pe_listRg rfl (by rfl) T.n_list (prg_1 (by rfl) T.n_range (pv 1))) (pa_cons (pe_lst pa_nil) pa_nil)) (by rfl)) (pss_cons (ps_while PassesOwn.never (pt_cmpR (op_neDK (K := K) hr.units) (pv 2) (pe_lst pa_nil) (nomark _)) (pss_one (ps_expr (pe_bmK (K := K) PySem.F.slot_list_append PySem.F.type_list_append mt_append (pv 3) (by exact (pa_cons (pe_bmK (K := K) PySem.F.slot_list_pop PySem.F.type_list_pop mt_popAt (pv 2) (by exact (pa_cons (pe_call (G__law_any T) (hr.mono (by decide)) (by rfl) T.m__law_any T.F__law_any.kp T.b__law_any .nil pass0 (by exact (pa_cons (pv 0) (pa_cons (pe_callB (cr_lenK (K := K)) (by rfl) T.n_len (by decide +kernel) (by exact (pa_cons (pv 2) pa_nil))) pa_nil)))) pa_nil))) pa_nil)))))) (pss_one (ps_ret (pe_ifExp (pt_cmpR op_eq (pe_call (G__law_any T) (hr.mono (by decide)) (by rfl) T.m__law_any T.F__law_any.kp T.b__law_any .nil pass0 (by exact (pa_cons (pv 0) (pa_cons pe_int pa_nil)))) pe_int (nomark _)) (pv 3) (pe_tupleK (K := K) (by rfl) T.n_tuple (pv 3))))))), ?_⟩
  · obtain ⟨p, q, k, rfl, _⟩ := h
    rfl
  · obtain ⟨p, q, k, rfl, d, k1, k12, hQ⟩ := h
    walk_at "rd"
    refine rd_lstRg ?_
    walk_at "rd"
    refine ⟨RgOk.of_le (by omega) (by omega) (by omega) (by omega), fun a n1 => ?_⟩
    rw [rg_ints]
    have S1 : Same H (upd H a (.lst ((rangeI k).map V.int))) := Same.fresh n1
    have e1 : upd H a (.lst ((rangeI k).map V.int)) a = some (.lst ((rangeI k).map V.int)) := upd_same
    generalize upd H a (.lst ((rangeI k).map V.int)) = H1 at S1 e1 ⊢
    walk_at "rd"
    intro b H2 n2 S2 e2
    walk_at "rd"
    have d2 := (d.same S1).same S2
    obtain ⟨ap, aq⟩ := d.nes n1
    obtain ⟨bp, bq⟩ := d.nes (S1.free n2)
    have b0 := S1.free n2
    have ab : a ≠ b := fun z => by rw [← z, e1] at n2; cases n2
    refine ⟨fun n σ H' => σ = [some (.ref p), some (.int (k : Nat)), some (.ref a), some (.ref b)] ∧ Deal H' p q ∧ Fix p q H H' ∧ ∃ ls fs : List Int, H' a = some (.lst (ls.map V.int)) ∧ H' b = some (.lst (fs.map V.int)) ∧ (ls ++ fs).Perm (rangeI k) ∧ n = ls.length,
      ⟨_, rfl, d2, (Fix.same S1).trans (Fix.same S2), rangeI k, [], S2 _ _ e1, e2, by rw [List.append_nil], rfl⟩, ?_⟩
    rintro n σ H' ⟨rfl, d', f', ls, fs, ha, hb, pm, rfl⟩
    have lsum : ls.length + fs.length = k := by have := pm.length_eq; rwa [List.length_append, rangeI_len] at this
    walk_at "rd"
    intro z H3 n3 S3 e3
    have d3 := d'.same S3
    have f3 := f'.trans (Fix.same S3)
    have ha := S3 _ _ ha
    have hb := S3 _ _ hb
    refine ⟨_, _, dp_ints ha, .lst (ds := []) (SqL.of e3) .nil, sh_ints ls, by decide, _, rfl, ?_⟩
    rw [ne_nil_ints]
    by_cases e : ls = []
    · refine iteF' (by simp [e]) ?_
      walk_at "rd"
      refine ⟨p, q, 2, rfl, d3, by decide, by decide, fun H4 c d4 f4 c0 c1 => ?_⟩
      walk_at "rd"
      have F4 := f3.trans f4
      have hb4 := f4 _ _ bp bq hb
      rw [e, List.nil_append] at pm
      by_cases ec : c = 0
      · refine iteT' (by simp [ec]) ?_
        walk_at "rd"
        exact hQ H4 b fs d4 F4 b0 (.lst hb4) ⟨pm⟩
      · refine iteF' (by simp [ec]) ?_
        walk_at "rd"
        refine rd_tupL hb4 fun r H5 r0 S5 hr5 => ?_
        exact hQ H5 r fs (d4.same S5) (F4.trans (Fix.same S5)) (F4.free d4 r0) (.tup (Tup.of hr5)) ⟨pm⟩
    · refine iteT' (by simp [e]) ?_
      refine ⟨fun σ' H'' => σ' = [some (.ref p), some (.int (k : Nat)), some (.ref a), some (.ref b)] ∧ Deal H'' p q ∧ Fix p q H H'' ∧ ∃ ls' fs' : List Int, H'' a = some (.lst (ls'.map V.int)) ∧ H'' b = some (.lst (fs'.map V.int)) ∧ (ls' ++ fs').Perm (rangeI k) ∧ ls'.length < ls.length,
        fun σ' H'' ⟨h1, h2, h3, ls', fs', h4, h5, h6, h7⟩ => ⟨ls'.length, h7, h1, h2, h3, ls', fs', h4, h5, h6, rfl⟩, ?_⟩
      walk_at "rd"
      refine rd_ty hb ?_
      walk_at "rd"
      refine rd_ty ha ?_
      walk_at "rd"
      refine rd_len ha ?_
      rw [List.length_map]
      walk_at "rd"
      have lp : 0 < ls.length := List.length_pos_iff.mpr e
      refine ⟨p, q, _, rfl, d3, by omega, by omega, fun H4 c d4 f4 c0 c1 => ?_⟩
      walk_at "rd"
      obtain ⟨j, rfl⟩ := Int.eq_ofNat_of_zero_le c0
      have hj : j < ls.length := by omega
      have gj : ls[j]? = some ls[j] := List.getElem?_eq_getElem hj
      have ha4 := f4 _ _ ap aq ha
      have hb4 := f4 _ _ bp bq hb
      refine ⟨a, _, _, j, .int ls[j], rfl, rfl, ha4, by omega, by omega, ?_, by rw [List.getElem?_map, gj]; rfl, ?_⟩
      · show (if decide (0 ≤ ((j : Nat) : Int)) && decide (((j : Nat) : Int) < ((ls.map V.int).length : Nat)) then some ((j : Nat) : Int).toNat else none) = some j
        rw [List.length_map, decide_eq_true c0, decide_eq_true (by omega : ((j : Nat) : Int) < (ls.length : Nat))]
        rfl
      walk_at "rd"
      refine rd_app (by rw [upd_ne ab.symm]; exact hb4) (by rw [List.length_map]; omega) ?_
      refine ⟨rfl, (d4.off ap aq).off bp bq, ((f3.trans f4).upd n1).upd b0, ls.eraseIdx j, fs ++ [ls[j]], ?_, ?_, ?_, ?_⟩
      · rw [upd_ne ab, upd_same, List.eraseIdx_eq_take_drop_succ, List.eraseIdx_eq_take_drop_succ, List.map_append, List.map_take, List.map_drop]
      · rw [upd_same, List.map_append]; rfl
      · refine List.Perm.trans ?_ pm
        rw [List.eraseIdx_eq_take_drop_succ]
        have es : ls = ls.take j ++ ls[j] :: ls.drop (j + 1) := by rw [← List.drop_eq_getElem_cons hj, List.take_append_drop]
        conv => rhs; rw [es]
        refine (List.Perm.append_left _ List.perm_append_comm).trans ?_
        show (List.take j ls ++ List.drop (j + 1) ls ++ ([ls[j]] ++ fs)).Perm _
        rw [← List.append_assoc]
        refine List.Perm.append_right _ ?_
        rw [List.append_assoc]
        exact List.Perm.append_left _ List.perm_append_comm
      · rw [List.length_eraseIdx_of_lt hj]; omega
end
theorem rd_ixB {K : PySem.W.Frag} {H : Hp} {Q : VK} {x : V} {xs : List V} {i : Int} {v : V} (hx : SqX K H x (some xs)) (e : atI xs i = some v) (h : Q v H) : rIxL K x (.int i) H Q ∨ rIxT K x (.int i) H Q := by
  cases hx with
  | lst ha => exact .inl (rd_ixL ha e h)
  | tup ha => exact .inr (rd_ixT ha e h)
def spDue (K : PySem.W.Frag) : L2.Sp := fun vs H Q _ => ∃ (pm pl pt : Addr) (k n : Nat) (ms : List Int) (L : List (Int × Int)) (ps : List Addr) (xs : List V) (ts : List (List Int)), vs = [.ref pm, .ref pl, .int (k : Nat), .ref pt] ∧ H pm = some (.lst (ms.map V.int)) ∧ H pl = some (.lst (ps.map V.ref)) ∧ Paired (PairAt H) ps L ∧ H pt = some (.lst xs) ∧
  Paired (TurnAt K H) xs ts ∧ ts.length = L.length ∧ (∀ t ∈ ts, IsTurn k t) ∧ Good n 4 L ∧ L.Pairwise lexlt ∧ L.length ≤ 32 ∧ ms.length ≤ 10 ∧ 0 < k ∧ k ≤ 12 ∧ n ≤ 10 ∧
  ∀ H' r a b qs M, Same H H' → H' r = some (.tup [.ref a, .ref b]) → H' a = some (.tup ((timesL k ms).map V.int)) → H' b = some (.tup (qs.map V.ref)) → Paired (PairAt H') qs M → M.Perm (lift k L ts) → M.Pairwise lexlt → Q (.ref r) H'
def spBlw : L2.Sp := fun vs H Q _ => ∃ (n k : Nat), vs = [.int (n : Nat), .int (k : Nat)] ∧ n ≤ 10 ∧ 0 < k ∧ k ≤ 12 ∧ ∀ H' r, Same H H' → H' r = some (.tup ((timesL k (rangeI n)).map V.int)) → Q (.ref r) H'
section
variable {P : Program} {w : World} {K : PySem.W.Frag} {mg : Str → Option Value} {base : Heap} (T : TX K mg)
theorem G__law_due : FnOk P w K mg base CX0 1 T.f__law_due T.d__law_due ["_law_modes", "_law_links_here", "_law_copies", "_law_turns"] (spDue K) := by
  refine T.F__law_due.ok sc__law_due (fun vs H Q E h => ?_) fun cdv A outer s H vs Q E hr h => ⟨_, (pss_cons (ps_par (i := 4) (j := 5) (by rfl) sc__law_due.nd rfl rfl (by decide) rfl rfl (pa_cons (pe_lst pa_nil) (pa_cons (pe_lst pa_nil) pa_nil)) (by rfl)) (pss_cons (ps_for PassesOwn.never rfl (pi_listK (K := K) (pv 0)) (pg_name (i := 6) sc__law_due.nd rfl (.inr rfl)) (pss_one (ps_set (i := 4) sc__law_due.nd rfl (.inl rfl) (pe_op op_cat (pv 4) (by exact (pe_lc (own := [("_law_copy", 9)]) (by rfl) sc__law_due.nd (pi_range1 (by rfl) T.n_range (by exact (pa_cons (pv 2) pa_nil))) (blkOk_by (own := [("_law_copy", 9)]) (N := N__law_due) (sc := defScope s__law_due) (by decide +kernel)) (fun _ _ _ _ _ => (pg_name (i := 9) sc__law_due.nd rfl (.inl rfl))) (fun _ _ _ _ _ => pts_nil) (fun _ _ _ _ _ => (pv 6)) )))))) (pss_cons (ps_for PassesOwn.never rfl (pi_enumK (K := K) (by rfl) T.n_enumerate (by exact (pa_cons (pv 1) pa_nil))) (pg_tupK (K := K) (n := 2) (by rfl) (pgs_cons (pg_name (i := 7) sc__law_due.nd rfl (.inr rfl)) (pgs_cons (pg_name (i := 8) sc__law_due.nd rfl (.inr rfl)) pgs_nil))) (pss_one (ps_set (i := 5) sc__law_due.nd rfl (.inl rfl) (pe_op op_cat (pv 5) (by exact (pe_lc (own := [("_law_copy", 9)]) (by rfl) sc__law_due.nd (pi_range1 (by rfl) T.n_range (by exact (pa_cons (pv 2) pa_nil))) (blkOk_by (own := [("_law_copy", 9)]) (N := N__law_due) (sc := defScope s__law_due) (by decide +kernel)) (fun _ _ _ _ _ => (pg_name (i := 9) sc__law_due.nd rfl (.inl rfl))) (fun _ _ _ _ _ => pts_nil) (fun _ _ _ _ _ => (pe_tup (pa_cons (pe_op op_add (pe_op op_mul (pe_ix (ix_tupK (K := K)) (pv 8) pe_int (fun _ _ => rfl)) (pv 2)) (pv 9)) (pa_cons (pe_op op_add (pe_op op_mul (pe_ix (ix_tupK (K := K)) (pv 8) pe_int (fun _ _ => rfl)) (pv 2)) (pe_ix ((ix_listK (K := K)).or (ix_tupK (K := K))) (pe_ix (ix_listK (K := K)) (pv 3) (pv 7) (fun _ _ => rfl)) (pv 9) (fun _ _ => rfl))) pa_nil)))) )))))) (pss_one (ps_ret (pe_tup (pa_cons (pe_tupleK (K := K) (by rfl) T.n_tuple (pv 4)) (pa_cons (pe_tupleK (K := K) (by rfl) T.n_tuple (pe_callB (cr_sortedPOK (K := K)) (by rfl) T.n_sorted (by decide +kernel) (by exact (pa_cons (pv 5) pa_nil)))) pa_nil)))))))), ?_⟩
  · obtain ⟨pm, pl, pt, k, n, ms, L, ps, xs, ts, rfl, _⟩ := h
    rfl
  · obtain ⟨pm, pl, pt, k, n, ms, L, ps, xs, ts, rfl, hm, hl, pL, ht, pT, lt, tt, g, srt, lL, lm, k0, k12, n10, hQ⟩ := h
    walk_at "rd"
    intro D0 H1 D00 S1 hD0
    walk_at "rd"
    intro F0 H2 F00 S2 hF0
    walk_at "rd"
    refine ⟨pm, rfl, ⟨_, SqL.of ((S1.trans S2) _ _ hm)⟩, ?_⟩
    refine for_list (xs := ms.map V.int) (fun i σ H' => (∃ D o6 o7 o8 o9, σ = [some (.ref pm), some (.ref pl), some (.int (k : Nat)), some (.ref pt), some (.ref D), some (.ref F0), o6, o7, o8, o9] ∧ H' D = some (.lst ((timesL k (ms.take i)).map V.int))) ∧ Same H H' ∧ H' F0 = some (.lst []))
      ⟨⟨_, _, _, _, _, rfl, by exact S2 _ _ hD0⟩, S1.trans S2, hF0⟩ (fun i σ H' _ pv => SqL.of (pv.2.1 _ _ hm)) (fun i v σ H' hv pv => ?_) (fun σ H' pv => ?_)
    · obtain ⟨⟨D, o6, o7, o8, o9, rfl, hD⟩, S3, hF⟩ := pv
      rw [List.getElem?_map] at hv
      obtain ⟨m, hmi, rfl⟩ := Option.map_eq_some_iff.mp hv
      have lt : (timesL k (ms.take i)).length ≤ 120 := by
        rw [times_len, List.length_take]
        have : min i ms.length * k ≤ 10 * 12 := Nat.mul_le_mul (by omega) k12
        omega
      walk_at "rd"
      refine ⟨by omega, by omega, fun D2 hD2 => ?_⟩
      have nD : D2 ≠ D := fun w => by rw [w, hD] at hD2; cases hD2
      refine lcv_rng (n := k) (List.replicate k (V.int m)) (by rw [List.length_replicate]) (by rw [List.length_replicate]; omega) hD2 (fun j z' H4 hj hz S4 R hR => ?_) (fun H4 S4 e => ?_)
      · refine ⟨rfl, ?_⟩
        walk_at "rd"
        rw [List.getElem?_replicate, if_pos hj] at hz
        cases hz
        exact hR H4 (Same.refl H4)
      · refine rd_cat (S4 _ _ hD) e (by rw [List.length_map, List.length_replicate]; omega) ?_
        intro D3 H5 D30 S5 hD3
        walk_at "rd"
        refine ⟨⟨_, _, _, _, _, rfl, ?_⟩, (S3.trans S4).trans S5, S5 _ _ (S4 _ _ hF)⟩
        rw [hD3, times_take hmi, List.map_append, List.map_replicate]
    · obtain ⟨⟨D, o6, o7, o8, o9, rfl, hD⟩, S3, hF⟩ := pv
      rw [List.length_map, List.take_length] at hD
      have lp := paired_len pL
      walk_at "rd"
      refine ⟨pl, _, rfl, SqL.of (S3 _ _ hl), ?_⟩
      refine for_enumL (xs := ps.map V.ref) (fun i σ H' => (∃ F o6 o7 o8 o9, σ = [some (.ref pm), some (.ref pl), some (.int (k : Nat)), some (.ref pt), some (.ref D), some (.ref F), o6, o7, o8, o9] ∧ ∃ qs : List Addr, H' F = some (.lst (qs.map V.ref)) ∧ Paired (PairAt H') qs (lift k (L.take i) (ts.take i))) ∧ Same H H' ∧ H' D = some (.lst ((timesL k ms).map V.int)))
        ⟨⟨_, _, _, _, _, rfl, [], hF, .nil⟩, S3, hD⟩ (fun i σ H' pv => SqL.of (pv.2.1 _ _ hl)) (fun i v σ H4 Tt H5 hv pv hTn S5 hTt => ?_) (fun σ H4 pv => ?_)
      · obtain ⟨⟨F, o6, o7, o8, o9, rfl, qs, hqs, pq⟩, S4, hD4⟩ := pv
        rw [List.getElem?_map] at hv
        obtain ⟨a, ha, rfl⟩ := Option.map_eq_some_iff.mp hv
        obtain ⟨e, he, hpe⟩ := paired_get pL ha
        have hi : i < L.length := (List.getElem?_eq_some_iff.mp he).1
        have hti : ts[i]? = some ts[i] := List.getElem?_eq_getElem (by omega)
        obtain ⟨x, hx⟩ : ∃ x, xs[i]? = some x := ⟨_, List.getElem?_eq_getElem (by have := paired_len pT; omega)⟩
        obtain ⟨t', ht', hxt⟩ := paired_get pT hx
        rw [hti] at ht'
        cases ht'
        have IT := tt _ (List.getElem_mem (by omega : i < ts.length))
        have ltt := IT.len
        generalize ts[i] = t at hti hxt IT ltt
        have er := g.rng e (List.mem_of_getElem? he)
        have S45 := S4.trans S5
        have lq := paired_len pq
        have ll : (lift k (L.take i) (ts.take i)).length ≤ 384 := by
          have h1 := lift_len k (L.take i) (ts.take i)
          have h2 : (L.take i).length * k ≤ 32 * 12 := Nat.mul_le_mul (by rw [List.length_take]; omega) k12
          omega
        refine rd_gtup (Tup.of hTt) rfl ?_
        walk_at "rd"
        refine ⟨by omega, by omega, fun D2 hD2 => ?_⟩
        have nD : D2 ≠ F := fun w => by rw [w, S5 _ _ hqs] at hD2; cases hD2
        refine lc_it (walk_rng (lo := 0) (n := k)) (fun j H' => Same H5 H' ∧ ∃ rs : List Addr, H' D2 = some (.lst (rs.map V.ref)) ∧ Paired (PairAt H') rs ((List.range j).map (fun c => (e.1 * k + ((c : Nat) : Int), e.2 * k + atT t c))))
          ⟨Same.fresh hD2, [], upd_same, .nil⟩ (fun j H' _ _ => trivial) (fun j v H6 H7 hj pv y => ?_) (fun H6 pv => ?_)
        · obtain ⟨rfl, rfl⟩ := y
          obtain ⟨S6, rs, hrs, pr⟩ := pv
          have S56 := S5.trans S6
          refine ⟨rfl, ?_⟩
          walk_at "rd"
          have hae : H7 a = some (.tup [.int e.1, .int e.2]) := (S4.trans S56) _ _ hpe
          refine rd_ixT (Tup.of hae) (v := .int e.1) rfl ?_
          walk_at "rd"
          refine rd_rI (.inr ⟨by omega, by omega⟩) ?_
          walk_at "rd"
          refine rd_ixT (Tup.of hae) (v := .int e.2) rfl ?_
          walk_at "rd"
          refine rd_rI (.inr ⟨by omega, by omega⟩) ?_
          walk_at "rd"
          refine rd_ixL ((S4.trans S56) _ _ ht) (v := x) (atI_nat hx) ?_
          walk_at "rd"
          have gj : t[j]? = some t[j] := List.getElem?_eq_getElem (by omega)
          have ec : atT t j = t[j] := by unfold atT; rw [List.getD_eq_getElem?_getD, gj]; rfl
          rw [Int.zero_add]
          refine rd_ixB (sqx_same hxt (S4.trans S56)) (v := .int t[j]) (atI_nat (by rw [List.getElem?_map, gj]; rfl)) ?_
          walk_at "rd"
          intro v H8 v0 S8 hv
          have hrs8 := S8 _ _ hrs
          have lr := paired_len pr
          rw [List.length_map, List.length_range] at lr
          refine ⟨_, hrs8, ?_, same_put (S6.trans S8) hD2, rs ++ [v], by rw [upd_same]; simp, ?_⟩
          · rw [List.length_map, lr]
            exact Nat.lt_of_le_of_lt (by omega : j ≤ 1000) (by decide)
          · rw [fib_take]
            refine pairs_upd (pairs_snoc (pairs_same pr S8) ?_) hrs8
            show H8 v = _
            rw [hv, ec]
        · obtain ⟨S6, rs, hrs, pr⟩ := pv
          have S56 := S5.trans S6
          have lr := paired_len pr
          rw [List.length_map, List.length_range] at lr
          refine rd_cat (S56 _ _ hqs) hrs (by rw [List.length_map, List.length_map]; omega) ?_
          intro D3 H7 D30 S7 hD3
          walk_at "rd"
          refine ⟨⟨_, _, _, _, _, rfl, qs ++ rs, by rw [hD3, List.map_append], ?_⟩, (S4.trans S56).trans S7, (S56.trans S7) _ _ hD4⟩
          rw [lift_take lt.symm he hti]
          exact paired_append (pairs_same pq (S56.trans S7)) (pairs_same (by unfold fib; exact pr) S7)
      · obtain ⟨⟨F, o6, o7, o8, o9, rfl, qs, hqs, pq⟩, S4, hD4⟩ := pv
        have e1 : L.take (ps.map V.ref).length = L := List.take_of_length_le (by rw [List.length_map]; omega)
        have e2 : ts.take (ps.map V.ref).length = ts := List.take_of_length_le (by rw [List.length_map]; omega)
        rw [e1, e2] at pq
        obtain ⟨L0, g0, s0, p0, _⟩ := lift_net k0 g srt lt.symm tt
        walk_at "rd"
        refine rd_tupL hD4 fun r1 H5 r10 S5 hr1 => ?_
        walk_at "rd"
        refine rd_sortedP (S5 _ _ hqs) (pairs_same pq S5) (p0.nodup_iff.mp g0.nd) fun qs' M pm srt' pr => ?_
        intro b1 H6 b10 S6 hb1
        walk_at "rd"
        refine rd_tupL hb1 fun r2 H7 r20 S7 hr2 => ?_
        walk_at "rd"
        intro r H8 r0 S8 hr
        walk_at "rd"
        exact hQ H8 r r1 r2 qs' M ((((S4.trans S5).trans S6).trans S7).trans S8) hr (((S6.trans S7).trans S8) _ _ hr1) (S8 _ _ hr2) (pairs_same pr ((S6.trans S7).trans S8)) pm srt'
theorem G__law_below : FnOk P w K mg base CX0 1 T.f__law_below T.d__law_below ["_law_many", "_law_copies"] spBlw := by
  refine T.F__law_below.ok sc__law_below (fun vs H Q E h => ?_) fun cdv A outer s H vs Q E hr h => ⟨_, (pss_cons (ps_set (i := 2) sc__law_below.nd rfl (.inl rfl) (pe_lst pa_nil)) (pss_cons (ps_for PassesOwn.never rfl (pi_range1 (by rfl) T.n_range (by exact (pa_cons (pv 0) pa_nil))) (pg_name (i := 3) sc__law_below.nd rfl (.inl rfl)) (pss_one (ps_set (i := 2) sc__law_below.nd rfl (.inl rfl) (pe_op op_cat (pv 2) (pe_op op_rep (pe_lst (pa_cons (pv 3) pa_nil)) (pv 1)))))) (pss_one (ps_ret (pe_tupleK (K := K) (by rfl) T.n_tuple (pv 2)))))), ?_⟩
  · obtain ⟨n, k, rfl, _⟩ := h
    rfl
  · obtain ⟨n, k, rfl, n10, k0, k12, hQ⟩ := h
    walk_at "rd"
    intro D0 H1 D00 S1 hD0
    walk_at "rd"
    refine ⟨by omega, by omega, ?_⟩
    refine for_range (lo := 0) (n := n) (fun i σ H' => (∃ D o3, σ = [some (.int (n : Nat)), some (.int (k : Nat)), some (.ref D), o3] ∧ H' D = some (.lst ((timesL k (rangeI i)).map V.int))) ∧ Same H H') ⟨⟨_, _, rfl, hD0⟩, S1⟩ (fun i σ H' hi pv => ?_) (fun σ H' pv => ?_)
    · obtain ⟨⟨D, o3, rfl, hD⟩, S2⟩ := pv
      have lt : (timesL k (rangeI i)).length ≤ 120 := by
        rw [times_len, rangeI_len]
        have : i * k ≤ 10 * 12 := Nat.mul_le_mul (by omega) k12
        omega
      walk_at "rd"
      intro a H3 a0 S3 ha
      walk_at "rd"
      refine rd_rep1 ha (by omega) fun b H4 b0 S4 hb => ?_
      refine rd_cat ((S3.trans S4) _ _ hD) hb (by rw [List.length_map, List.length_replicate]; omega) fun c H5 c0 S5 hc => ?_
      walk_at "rd"
      refine ⟨⟨_, _, rfl, ?_⟩, ((S2.trans S3).trans S4).trans S5⟩
      have er : rangeI (i + 1) = rangeI i ++ [((i : Nat) : Int)] := by unfold rangeI; rw [List.range_succ, List.map_append]; rfl
      rw [hc, er, times_snoc, List.map_append, List.map_replicate, Int.zero_add]
    · obtain ⟨⟨D, o3, rfl, hD⟩, S2⟩ := pv
      walk_at "rd"
      exact rd_tupL hD fun r H3 r0 S3 hr => hQ H3 r (S2.trans S3) hr
end
end K71

namespace K71
open PySem PySem.Spec PyProof.Rows L2 KX LamX RZ
local macro_rules | `(tactic| walk_at "rd1") => `(tactic| first
  | with_reducible refine rd_seq ?_
  | with_reducible refine rd_for ?_
  | with_reducible refine rd_lc ?_
  | with_reducible refine rd_asg ?_
  | ((with_reducible refine' rd_var ?rdv ?_); (case rdv => exact rfl))
  | with_reducible refine rd_c ?_
  | with_reducible refine rd_op ?_
  | with_reducible refine rd_un ?_
  | with_reducible refine rd_cons ?_
  | with_reducible refine rd_nil ?_
  | with_reducible refine rd_call ?_
  | with_reducible refine rd_cb ?_
  | with_reducible refine rd_tB ?_
  | with_reducible refine rd_test ?_
  | with_reducible refine rd_bl ?_
  | with_reducible refine rd_rI0 ?_
  | with_reducible refine rd_eqI ?_
  | with_reducible refine rd_neI ?_
  | with_reducible refine rd_rU ?_
  | with_reducible refine rd_name ?_
  | with_reducible refine rd_ifs ?_
  | with_reducible refine rd_and ?_
  | with_reducible refine rd_or ?_
  | with_reducible refine rd_not ?_
  | with_reducible refine rd_yes ?_
  | with_reducible refine rd_andV ?_
  | with_reducible refine rd_orV ?_
  | with_reducible refine rd_notV ?_
  | with_reducible refine rd_if ?_
  | with_reducible refine rd_isN ?_
  | with_reducible refine rd_iT ?_
  | with_reducible refine rd_iF ?_
  | with_reducible refine rd_ret ?_
  | with_reducible refine rd_retN ?_
  | with_reducible refine rd_drop ?_
  | with_reducible refine rd_next ?_
  | with_reducible refine rd_cont ?_
  | with_reducible refine rd_brk ?_
  | with_reducible refine rd_nx ?_
  | with_reducible refine rd_rt ?_
  | with_reducible refine rd_ct ?_
  | with_reducible refine rd_bk ?_
  | with_reducible refine rd_par ?_
  | with_reducible refine rd_par3 ?_
  | with_reducible refine rd_par2 ?_
  | with_reducible refine rd_par33 ?_
  | with_reducible refine rd_gcons ?_
  | with_reducible refine rd_gnil ?_
  | with_reducible refine rd_sub ?_
  | with_reducible refine rd_tup ?_
  | with_reducible refine rd_lst ?_
  | ((with_reducible refine rd_tupT ?hl ?_); (case hl => exact Nat.le_of_ble_eq_true rfl))
  | ((with_reducible refine rd_lstT ?hl ?_); (case hl => exact Nat.le_of_ble_eq_true rfl))
  | with_reducible refine rd_bm ?_
  | with_reducible refine rd_bm0 ?_
  | with_reducible refine rd_sl ?_
  | with_reducible refine rd_noP ?_
  | with_reducible refine rd_part ?_
  | with_reducible refine rd_int ?_
  | with_reducible refine rd_int1 ?_
  | with_reducible refine rd_fld ?_
  | with_reducible refine rd_then ?_
  | with_reducible refine rd_raise ?_
  | with_reducible refine rd_one ?_
  | with_reducible refine rd_sfld ?_
  | with_reducible refine rd_ilist ?_
  | with_reducible refine rd_itup ?_
  | with_reducible refine rd_rng1 ?_
  | with_reducible refine rd_enum ?_
  | with_reducible refine rd_enumT ?_)
local macro_rules | `(tactic| walk_at "rd") => `(tactic| repeat (walk_at "rd1"))
/-! ### the def that hears -/
theorem pss_given {X : Cx} {ss : List Stmt} {t : TS} {p : Prop} {n : Nat} (hn : X.N.length = n) (h : p → PSs X ss t) : PSs X ss (fun D σ H => p ∧ (σ.length = n → t D σ H)) :=
  ⟨fun pins s σ H D I q => (h q.1).run pins s σ H D I (q.2 (I.len.trans hn))⟩
/-- what is known of the errors' classes -/
structure IsR (K : PySem.W.Frag) (CQ CR : Addr) : Prop where
  xq : XfC K CQ
  xr : XfC K CR
  nq : PySem.W.findIn K (.ref CQ) "at" = some none
  nr : PySem.W.findIn K (.ref CR) "at" = some none
  qq : PySem.W.exmOne K (.ref CQ) (.ref CQ) = some true
  rq : PySem.W.exmOne K (.ref CR) (.ref CQ) = some false
  rr : PySem.W.exmOne K (.ref CR) (.ref CR) = some true
/-- heard: a word and the number told go on -/
def HearR (CQ CR : Addr) (Q : VK) : XK := fun cls d H' => ∃ dd v, d = some dd ∧ H' dd = some (.xd [(("at" : Str), v)]) ∧ ((cls = .ref CQ ∧ NewO H' (.tup [.str "question", v]) Q) ∨ (cls = .ref CR ∧ NewO H' (.tup [.str "refused", v]) Q))
def TTr (CQ CR : Addr) : (XK → Hp → VK → Prop) → Hp → VK → Prop := fun tl H Q => tl (HearR CQ CR Q) H (fun _ H' => Q .non H')
def tWd (w : Str) (C a : Addr) (cls : Value) (d : Option Addr) : TS := tRet (tTup (tCons (tC (.str w)) (tCons (tXf a cls d C "at" (tVar 1)) tNil)))
theorem gives {X : Cx} {g CQ CR CN : Addr} {cdg : Value} {q : Str} (T : IsR X.K CQ CR) (gQ : X.mg "InvalidQuestion" = some (.ref CQ)) (gR : X.mg "Refused" = some (.ref CR)) (gN : X.mg "NetError" = some (.ref CN)) :
    GivesTo X ["_law_work", "error"] "_law_refused" (defScope s__law_refused) g cdg (defBody s__law_refused) "_law_work" q (TTr CQ CR) := by
  intro f c' s H Q tl act hc h
  refine ⟨_, pss_cons (ps_try_hears (X := (cxOf C8.CX0 X.prog X.w X.K X.mg X.base ["_law_work", "error"] "_law_refused" (defScope s__law_refused) g cdg X.A X.stack s H C8.E0).nox)
      (tb := fun W D σ H => ∃ Ech : XK, (∀ cls d σ' H', Ech cls d H' → W cls d σ' H') ∧ σ[0]? = some (some (.ref f)) ∧ H c' = some (CodeO c' q) ∧ tl Ech H (fun _ H' => D.nx σ H'))
      rfl rfl (fun W pn xe tk _ => ?_)
      (hears_named (c := .ref CQ) (i := 1) (ts := fun a cls d D σ H => cls = .ref CQ ∧ (σ.length = 2 → tWd "question" CQ a cls d D σ H)) rfl sc__law_refused.nd rfl rfl ⟨rfl, by decide, .inl gQ⟩ (fun a oe cls d pn hz hf => pss_given (n := 2) rfl fun hcls => ?_)
      (hears_named (c := .ref CR) (i := 1) (ts := fun a cls d D σ H => cls = .ref CR ∧ (σ.length = 2 → tWd "refused" CR a cls d D σ H)) rfl sc__law_refused.nd rfl rfl ⟨rfl, by decide, .inl gR⟩ (fun a oe cls d pn hz hf => pss_given (n := 2) rfl fun hcls => ?_)
      (hears_plain (c := .ref CN) rfl ⟨rfl, by decide, .inl gN⟩ (fun a oe cls d pn hz hf => pss_one (ps_ret (pe_tup (pa_cons pe_str (pa_cons pe_int pa_nil)))))
      (hears_nil (Wout := fun _ _ _ _ => False) rfl rfl LamX.takes0))))) (pss_one (ps_ret pe_non)), ?_⟩
  · refine ⟨fun pins s' σ H' D I h' => ?_⟩
    obtain ⟨Ech, hW, h1, h2, h3⟩ := h'
    exact (pss_one (ps_expr (act W pn xe Ech _ _ tk hW))).run pins s' σ H' D I ⟨h1, h2, h3⟩
  · subst hcls
    exact pss_one (ps_ret (pe_tup (pa_cons pe_str (pa_cons (pe_xf T.xq T.nq hz hf (pv 1)) pa_nil))))
  · subst hcls
    exact pss_one (ps_ret (pe_tup (pa_cons pe_str (pa_cons (pe_xf T.xr T.nr hz hf (pv 1)) pa_nil))))
  · refine ⟨HearR CQ CR Q, fun cls d σ' H' h => ?_, rfl, hc, h⟩
    obtain ⟨dd, v, rfl, hdd, ⟨rfl, hn⟩ | ⟨rfl, hn⟩⟩ := h
    · refine ⟨true, T.qq, fun _ a _ => ⟨rfl, fun hl => ?_⟩, fun z => Bool.noConfusion z⟩
      rw [List.length_set] at hl
      have l1 : (σ'.set 1 (some (V.ref a)))[1]? = some (some (V.ref a)) := by
        rw [List.getElem?_set_self (by omega)]
      unfold tWd
      walk_at "rd"
      refine ⟨.ref a, l1, rfl, rfl, dd, _, v, rfl, hdd, by simp [List.lookup], ?_⟩
      walk_at "rd"
      exact hn
    · refine ⟨false, T.rq, fun z => Bool.noConfusion z, fun _ => ⟨true, T.rr, fun _ a _ => ⟨rfl, fun hl => ?_⟩, fun z => Bool.noConfusion z⟩⟩
      rw [List.length_set] at hl
      have l1 : (σ'.set 1 (some (V.ref a)))[1]? = some (some (V.ref a)) := by
        rw [List.getElem?_set_self (by omega)]
      unfold tWd
      walk_at "rd"
      refine ⟨.ref a, l1, rfl, rfl, dd, _, v, rfl, hdd, by simp [List.lookup], ?_⟩
      walk_at "rd"
      exact hn
end K71

namespace K71
open PySem PySem.Spec PyProof.Rows L2 KX LamX RZ
local macro_rules | `(tactic| walk_at "rd1") => `(tactic| first
  | with_reducible refine rd_seq ?_
  | with_reducible refine rd_for ?_
  | with_reducible refine rd_lc ?_
  | with_reducible refine rd_asg ?_
  | ((with_reducible refine' rd_var ?rdv ?_); (case rdv => exact rfl))
  | with_reducible refine rd_c ?_
  | with_reducible refine rd_op ?_
  | with_reducible refine rd_un ?_
  | with_reducible refine rd_cons ?_
  | with_reducible refine rd_nil ?_
  | with_reducible refine rd_call ?_
  | with_reducible refine rd_cb ?_
  | with_reducible refine rd_tB ?_
  | with_reducible refine rd_test ?_
  | with_reducible refine rd_bl ?_
  | with_reducible refine rd_rI0 ?_
  | with_reducible refine rd_eqI ?_
  | with_reducible refine rd_neI ?_
  | with_reducible refine rd_rU ?_
  | with_reducible refine rd_name ?_
  | with_reducible refine rd_ifs ?_
  | with_reducible refine rd_and ?_
  | with_reducible refine rd_or ?_
  | with_reducible refine rd_not ?_
  | with_reducible refine rd_yes ?_
  | with_reducible refine rd_andV ?_
  | with_reducible refine rd_orV ?_
  | with_reducible refine rd_notV ?_
  | with_reducible refine rd_if ?_
  | with_reducible refine rd_isN ?_
  | with_reducible refine rd_iT ?_
  | with_reducible refine rd_iF ?_
  | with_reducible refine rd_ret ?_
  | with_reducible refine rd_retN ?_
  | with_reducible refine rd_drop ?_
  | with_reducible refine rd_next ?_
  | with_reducible refine rd_cont ?_
  | with_reducible refine rd_brk ?_
  | with_reducible refine rd_nx ?_
  | with_reducible refine rd_rt ?_
  | with_reducible refine rd_ct ?_
  | with_reducible refine rd_bk ?_
  | with_reducible refine rd_par ?_
  | with_reducible refine rd_par3 ?_
  | with_reducible refine rd_par2 ?_
  | with_reducible refine rd_par33 ?_
  | with_reducible refine rd_gcons ?_
  | with_reducible refine rd_gnil ?_
  | with_reducible refine rd_sub ?_
  | with_reducible refine rd_tup ?_
  | with_reducible refine rd_lst ?_
  | ((with_reducible refine rd_tupT ?hl ?_); (case hl => exact Nat.le_of_ble_eq_true rfl))
  | ((with_reducible refine rd_lstT ?hl ?_); (case hl => exact Nat.le_of_ble_eq_true rfl))
  | with_reducible refine rd_bm ?_
  | with_reducible refine rd_bm0 ?_
  | with_reducible refine rd_sl ?_
  | with_reducible refine rd_noP ?_
  | with_reducible refine rd_part ?_
  | with_reducible refine rd_int ?_
  | with_reducible refine rd_int1 ?_
  | with_reducible refine rd_fld ?_
  | with_reducible refine rd_then ?_
  | with_reducible refine rd_raise ?_
  | with_reducible refine rd_one ?_
  | with_reducible refine rd_sfld ?_
  | with_reducible refine rd_ilist ?_
  | with_reducible refine rd_itup ?_
  | with_reducible refine rd_rng1 ?_
  | with_reducible refine rd_enum ?_
  | with_reducible refine rd_enumT ?_)
local macro_rules | `(tactic| walk_at "rd") => `(tactic| repeat (walk_at "rd1"))
theorem pe_alt {X : Cx} {e : Expr} {t1 t2 : TE} (h1 : PE X e t1) (h2 : PE X e t2) : PE X e (fun σ H Q => t1 σ H Q ∨ t2 σ H Q) :=
  ⟨fun pins s σ H Q I h => h.elim (h1.run pins s σ H Q I) (h2.run pins s σ H Q I)⟩
def qM : Str := (envOfC "_law_refusals_right" (defScope s__law_refusals_right) 0 0 .none).qual ++ "<lambda>"
/-- a def whose code object is known -/
def DefC (K : PySem.W.Frag) (x : Str) (st : Stmt) (f c : Addr) (fd : FuncData) : Prop :=
  ∃ (oc : Value) (od : Option Addr) (kV doc pm : Value) (an : Option Addr) (ct : Value) (osl : Array (Option Value)), fd = PySem.W.fnOf x x (defArgs st) (defBody st) (defScope st) .none kV doc pm an (.ref c) ct ∧
    K.lookup f = some ⟨oc, od, .func fd, osl⟩ ∧ PySem.W.codeIn K (.ref c) x = true
theorem rd_dnew {σ : L2.St} {H : Hp} {Q : VK} (h : NewO H (.dK []) Q) : tDNewK σ H Q := new_of h
theorem rd_lam {T : List (Addr × Str)} {TT : (XK → Hp → VK → Prop) → Hp → VK → Prop} {t : XK → TE} {σ : L2.St} {H : Hp} {Q : VK} (hT : Tabs T H) (h : ∀ H1, ExtN H H1 → Tabs T H1 → TT (fun E H' Q' => t E σ H' Q') H1 Q) : tLam T TT t σ H Q := ⟨hT, h⟩
theorem kin_bl {K : PySem.W.Frag} {H : Hp} (b : Bool) : Kin K H (.bl b) none := .oth (b1 := true) (b2 := true) (.base (.bl b)) (by decide +kernel) (by decide +kernel) rfl
theorem kin_str {K : PySem.W.Frag} {H : Hp} (x : Str) : Kin K H (.str x) none := .oth (b1 := false) (b2 := false) (.base (.str x)) (by decide +kernel) (by decide +kernel) rfl
theorem kin_non {K : PySem.W.Frag} {H : Hp} : Kin K H .non none := .oth (b1 := false) (b2 := false) (.base .non) (by decide +kernel) (by decide +kernel) rfl
theorem kin_tup {K : PySem.W.Frag} {H : Hp} {a : Addr} {xs : List V} (h : H a = some (.tup xs)) : Kin K H (.ref a) none := .oth (b1 := false) (b2 := false) (.base (.tup h)) (by decide +kernel) (by decide +kernel) rfl
theorem kin_lst {K : PySem.W.Frag} {H : Hp} {a : Addr} {xs : List V} (h : H a = some (.lst xs)) : Kin K H (.ref a) none := .oth (b1 := false) (b2 := false) (.base (.lst h)) (by decide +kernel) (by decide +kernel) rfl
theorem sq_non {K : PySem.W.Frag} {H : Hp} : SqX K H .non none := .oth (.base .non) (by decide +kernel) (by decide +kernel)
theorem sq_int {K : PySem.W.Frag} {H : Hp} (i : Int) : SqX K H (.int i) none := .oth (.base (.int i)) (by decide +kernel) (by decide +kernel)
theorem sq_str {K : PySem.W.Frag} {H : Hp} (x : Str) : SqX K H (.str x) none := .oth (.base (.str x)) (by decide +kernel) (by decide +kernel)
theorem sq_dic {K : PySem.W.Frag} {H : Hp} {a : Addr} (h : H a = some (.dK [])) : SqX K H (.ref a) none := .oth (.base (.dK h)) (by decide +kernel) (by decide +kernel)
theorem kins_ints {K : PySem.W.Frag} {H : Hp} : ∀ ms : List Int, Paired (Kin K H) (ms.map V.int) (ms.map some)
  | [] => .nil
  | m :: ms => .cons (.int m) (kins_ints ms)
/-! ### what stays -/
theorem Kp.extN {p q : Addr} {H H' : Hp} (e : ExtN H H') : Kp p q H H' := ⟨fun a o h _ t => e a o h t, fun a xs _ _ h => e a _ h (fun ps z => nomatch z)⟩
/-- what is no turn -/
inductive BadT (K : PySem.W.Frag) (p q : Addr) (H : Hp) (k : Nat) : V → Prop
  | any {x : V} (h : ∀ H', SqX K H' x none) : BadT K p q H k x
  | dic {a : Addr} (h : H a = some (.dK [])) : BadT K p q H k (.ref a)
  | odd {a : Addr} {xs : List V} {os : List (Option Int)} (ap : a ≠ p) (aq : a ≠ q) (h : H a = some (.lst xs)) (kn : ∀ H', Paired (Kin K H') xs os) (b : (os.all fun o => belB o k) = false) (l : xs.length < 1000) : BadT K p q H k (.ref a)
  | tups {a b : Addr} (ap : a ≠ p) (aq : a ≠ q) (h : H a = some (.lst (List.replicate k (.ref b)))) (hb : H b = some (.tup [.int 0])) : BadT K p q H k (.ref a)
  | nums {a : Addr} {t : List Int} (ap : a ≠ p) (aq : a ≠ q) (h : H a = some (.lst (t.map V.int))) (b : ∀ c ∈ t, 0 ≤ c ∧ c < k) (l : t.length < 64) (n : t.length ≠ k) : BadT K p q H k (.ref a)
theorem BadT.kp {K : PySem.W.Frag} {p q : Addr} {H H' : Hp} {k : Nat} {x : V} (h : BadT K p q H k x) (s : Kp p q H H') : BadT K p q H' k x := by
  cases h with
  | any h => exact .any h
  | dic h => exact .dic (s.nl _ _ h (fun xs e => nomatch e) (fun ps e => nomatch e))
  | odd ap aq h kn b l => exact .odd ap aq (s.ls _ _ ap aq h) kn b l
  | tups ap aq h hb => exact .tups ap aq (s.ls _ _ ap aq h) (s.tup hb)
  | nums ap aq h b l n => exact .nums ap aq (s.ls _ _ ap aq h) b l n
theorem paired_rep {α β : Type} {F : α → β → Prop} {a : α} {b : β} (h : F a b) : ∀ n, Paired F (List.replicate n a) (List.replicate n b)
  | 0 => .nil
  | n + 1 => .cons h (paired_rep h n)
theorem BadT.turn {K : PySem.W.Frag} {p q : Addr} {H : Hp} {k : Nat} {x : V} (h : BadT K p q H k x) (k1 : 1 ≤ k) (k9 : k < 1000) : TurnX K H k x false := by
  cases h with
  | any h => exact .seq (h H)
  | dic h => exact .seq (sq_dic h)
  | odd ap aq h kn b l => exact .bad (.lst h) (kn H) b l
  | tups ap aq h hb => exact .bad (.lst h) (paired_rep (kin_tup hb) k) (by obtain ⟨m, rfl⟩ : ∃ m, k = m + 1 := ⟨k - 1, by omega⟩; rfl) (by rw [List.length_replicate]; omega)
  | @nums a t ap aq h b l n =>
    have : decide (sortI t = rangeI k) = false := decide_eq_false fun e => n (by
      have := (sortI_perm t).length_eq
      rw [e, rangeI_len] at this
      exact this.symm)
    rw [← this]
    exact .nums (.lst h) b l
def spBadT (K : PySem.W.Frag) : L2.Sp := fun vs H Q _ => ∃ (p q : Addr) (k : Nat), vs = [.ref p, .int (k : Nat)] ∧ Deal H p q ∧ 1 ≤ k ∧ k ≤ 12 ∧
  ∀ H' x, Deal H' p q → Fix p q H H' → BadT K p q H' k x → Q x H'
theorem rd_lstRg2 {ta tb : TE} {σ : L2.St} {H : Hp} {Q : VK} (h : ta σ H fun x H1 => tb σ H1 fun y H2 => ∃ i j, x = .int i ∧ y = .int j ∧ RgOk i j ∧ ∀ q, H2 q = none → Q (.ref q) (upd H2 q (.lst (rgV i j)))) : tLstRg (tRg2 ta tb) σ H Q := h
theorem rgV_ints (i j : Int) : ∃ t : List Int, rgV i j = t.map V.int ∧ t.length = (j - i).toNat := by
  refine ⟨(List.range (j - i).toNat).map fun c => i + (c : Nat), ?_, by simp⟩
  unfold rgV
  rw [List.map_map]
  rfl
theorem rg_at {n : Nat} {j : Int} (e : j = (n : Nat)) : rgV 0 j = (rangeI n).map V.int := by rw [e, rg_ints]
section
variable {P : Program} {w : World} {K : PySem.W.Frag} {mg : Str → Option Value} {base : Heap} (T : TX K mg)
theorem G__law_bad_turn : FnOk P w K mg base CX0 3 T.f__law_bad_turn T.d__law_bad_turn ["_law_deal", "_law_copies"] (spBadT K) := by
  refine T.F__law_bad_turn.ok sc__law_bad_turn (fun vs H Q E h => ?_) fun cdv A outer s H vs Q E hr h => ⟨_, (pss_cons (ps_set (i := 2) sc__law_bad_turn.nd rfl (.inl rfl) (pe_lst (pa_cons pe_non (pa_cons pe_int (pa_cons pe_str (pa_cons pe_dnewK (pa_cons (pe_listRg rfl (by rfl) T.n_list (prg_1 (by rfl) T.n_range (pe_op op_add (pv 1) pe_int))) (pa_cons (pe_op op_cat (pe_lst (pa_cons (pe_op op_sub pe_int pe_int) pa_nil)) (pe_listRg rfl (by rfl) T.n_list (prg_2 (by rfl) T.n_range pe_int (pv 1)))) (pa_cons (pe_op op_cat (pe_lst (pa_cons pe_bl pa_nil)) (pe_listRg rfl (by rfl) T.n_list (prg_1 (by rfl) T.n_range (pe_op op_sub (pv 1) pe_int)))) pa_nil))))))))) (pss_cons (ps_set (i := 2) sc__law_bad_turn.nd rfl (.inl rfl) (pe_op op_cat (pv 2) (pe_lst (pa_cons (pe_listRg rfl (by rfl) T.n_list (prg_1 (by rfl) T.n_range (pe_op op_sub (pv 1) pe_int))) (pa_cons (pe_op op_rep (pe_lst (pa_cons pe_int pa_nil)) (pe_op op_add (pv 1) pe_int)) (pa_cons (pe_op op_cat (pe_lst (pa_cons (pv 1) pa_nil)) (pe_listRg rfl (by rfl) T.n_list (prg_1 (by rfl) T.n_range (pe_op op_sub (pv 1) pe_int)))) (pa_cons (pe_op op_rep (pe_lst (pa_cons (pe_tup (pa_cons pe_int pa_nil)) pa_nil)) (pv 1)) pa_nil))))))) (pss_one (ps_ret (pe_call (G__law_of T) (hr.mono (by decide)) (by rfl) T.m__law_of T.F__law_of.kp T.b__law_of .nil pass0 (by exact (pa_cons (pv 0) (pa_cons (pv 2) pa_nil)))))))), ?_⟩
  · obtain ⟨p, q, k, rfl, _⟩ := h
    rfl
  · obtain ⟨p, q, k, rfl, d, k1, k12, hQ⟩ := h
    walk_at "rd"
    refine rd_dnew fun a0 H1 n0 S1 e0 => ?_
    walk_at "rd"
    refine rd_lstRg ?_
    walk_at "rd"
    refine ⟨RgOk.of_le (by omega) (by omega) (by omega) (by omega), fun a1 n1 => ?_⟩
    rw [rg_at (n := k + 1) (j := (k : Int) + 1) (by omega)]
    have S2 : Same H1 (upd H1 a1 (.lst ((rangeI (k + 1)).map V.int))) := Same.fresh n1
    have e1 : upd H1 a1 (.lst ((rangeI (k + 1)).map V.int)) a1 = some (.lst ((rangeI (k + 1)).map V.int)) := upd_same
    generalize upd H1 a1 (.lst ((rangeI (k + 1)).map V.int)) = H2 at S2 e1 ⊢
    walk_at "rd"
    intro a2 H3 n2 S3 e2
    walk_at "rd"
    refine rd_lstRg2 ?_
    walk_at "rd"
    refine ⟨1, k, rfl, rfl, RgOk.of_le (by omega) (by omega) (by omega) (by omega), fun a3 n3 => ?_⟩
    obtain ⟨t4, et4, lt4⟩ := rgV_ints 1 (k : Int)
    rw [et4]
    have S4 : Same H3 (upd H3 a3 (.lst (t4.map V.int))) := Same.fresh n3
    have e3 : upd H3 a3 (.lst (t4.map V.int)) a3 = some (.lst (t4.map V.int)) := upd_same
    generalize upd H3 a3 (.lst (t4.map V.int)) = H4 at S4 e3 ⊢
    refine rd_cat (S4 _ _ e2) e3 (by rw [List.length_map, lt4]; show 1 + _ ≤ _; omega) fun a4 H5 n4 S5 e4 => ?_
    walk_at "rd"
    intro a5 H6 n5 S6 e5
    walk_at "rd"
    refine rd_lstRg ?_
    walk_at "rd"
    refine ⟨RgOk.of_le (by omega) (by omega) (by omega) (by omega), fun a6 n6 => ?_⟩
    rw [rg_at (n := k - 1) (j := (k : Int) - 1) (by omega)]
    have S7 : Same H6 (upd H6 a6 (.lst ((rangeI (k - 1)).map V.int))) := Same.fresh n6
    have e6 : upd H6 a6 (.lst ((rangeI (k - 1)).map V.int)) a6 = some (.lst ((rangeI (k - 1)).map V.int)) := upd_same
    generalize upd H6 a6 (.lst ((rangeI (k - 1)).map V.int)) = H7 at S7 e6 ⊢
    refine rd_cat (S7 _ _ e5) e6 (by rw [List.length_map, rangeI_len]; show 1 + _ ≤ _; omega) fun a7 H8 n7 S8 e7 => ?_
    walk_at "rd"
    intro b H9 n8 S9 e8
    walk_at "rd"
    refine rd_lstRg ?_
    walk_at "rd"
    refine ⟨RgOk.of_le (by omega) (by omega) (by omega) (by omega), fun c1 m1 => ?_⟩
    rw [rg_at (n := k - 1) (j := (k : Int) - 1) (by omega)]
    have S10 : Same H9 (upd H9 c1 (.lst ((rangeI (k - 1)).map V.int))) := Same.fresh m1
    have f1 : upd H9 c1 (.lst ((rangeI (k - 1)).map V.int)) c1 = some (.lst ((rangeI (k - 1)).map V.int)) := upd_same
    generalize upd H9 c1 (.lst ((rangeI (k - 1)).map V.int)) = H10 at S10 f1 ⊢
    walk_at "rd"
    intro c2 H11 m2 S11 f2
    walk_at "rd"
    refine rd_rep1 (k := k + 1) f2 (by omega) fun c3 H12 m3 S12 f3 => ?_
    walk_at "rd"
    intro c4 H13 m4 S13 f4
    walk_at "rd"
    refine rd_lstRg ?_
    walk_at "rd"
    refine ⟨RgOk.of_le (by omega) (by omega) (by omega) (by omega), fun c5 m5 => ?_⟩
    rw [rg_at (n := k - 1) (j := (k : Int) - 1) (by omega)]
    have S14 : Same H13 (upd H13 c5 (.lst ((rangeI (k - 1)).map V.int))) := Same.fresh m5
    have f5 : upd H13 c5 (.lst ((rangeI (k - 1)).map V.int)) c5 = some (.lst ((rangeI (k - 1)).map V.int)) := upd_same
    generalize upd H13 c5 (.lst ((rangeI (k - 1)).map V.int)) = H14 at S14 f5 ⊢
    refine rd_cat (S14 _ _ f4) f5 (by rw [List.length_map, rangeI_len]; show 1 + _ ≤ _; omega) fun c6 H15 m6 S15 f6 => ?_
    walk_at "rd"
    intro c7 H16 m7 S16 f7
    walk_at "rd"
    intro c8 H17 m8 S17 f8
    walk_at "rd"
    refine rd_rep1 f8 (by omega) fun c9 H18 m9 S18 f9 => ?_
    walk_at "rd"
    intro c10 H19 m10 S19 f10
    have V9 : Same H9 H19 := S10.trans (S11.trans (S12.trans (S13.trans (S14.trans (S15.trans (S16.trans (S17.trans (S18.trans S19))))))))
    refine rd_cat (V9 _ _ e8) f10 (by show 7 + 4 ≤ _; decide) fun r H20 m11 S20 f11 => ?_
    walk_at "rd"
    have U19 : Same H19 H20 := S20
    have U18 : Same H18 H20 := S19.trans U19
    have U17 : Same H17 H20 := S18.trans U18
    have U16 : Same H16 H20 := S17.trans U17
    have U15 : Same H15 H20 := S16.trans U16
    have U14 : Same H14 H20 := S15.trans U15
    have U13 : Same H13 H20 := S14.trans U14
    have U12 : Same H12 H20 := S13.trans U13
    have U11 : Same H11 H20 := S12.trans U12
    have U10 : Same H10 H20 := S11.trans U11
    have U9 : Same H9 H20 := S10.trans U10
    have U8 : Same H8 H20 := S9.trans U9
    have U7 : Same H7 H20 := S8.trans U8
    have U6 : Same H6 H20 := S7.trans U7
    have U5 : Same H5 H20 := S6.trans U6
    have U4 : Same H4 H20 := S5.trans U5
    have U3 : Same H3 H20 := S4.trans U4
    have U2 : Same H2 H20 := S3.trans U3
    have U1 : Same H1 H20 := S2.trans U2
    have W1 := d.same S1
    have W2 := W1.same S2
    have W3 := W2.same S3
    have W4 := W3.same S4
    have W5 := W4.same S5
    have W6 := W5.same S6
    have W7 := W6.same S7
    have W8 := W7.same S8
    have W9 := W8.same S9
    have W10 := W9.same S10
    have W11 := W10.same S11
    have W12 := W11.same S12
    have W13 := W12.same S13
    have W14 := W13.same S14
    have W15 := W14.same S15
    have W16 := W15.same S16
    have W17 := W16.same S17
    have W18 := W17.same S18
    have W19 := W18.same S19
    have W20 := W19.same S20
    have U0 : Same H H20 := S1.trans U1
    refine ⟨p, q, r, _, rfl, W20, (W19.nes m11).1, (W19.nes m11).2, f11, by show 0 < 11; decide, by show 11 < 1000; decide, fun H21 x hx d21 fx => ?_⟩
    refine hQ H21 x d21 ((Fix.same U0).trans fx) (BadT.kp ?_ (Kp.fix W20 fx))
    simp only [List.cons_append, List.nil_append, List.mem_cons, List.not_mem_nil, or_false] at hx
    rcases hx with h | h | h | h | h | h | h | h | h | h | h <;> subst h
    · exact .any fun _ => sq_non
    · exact .any fun _ => sq_int 3
    · exact .any fun _ => sq_str _
    · exact .dic (U1 _ _ e0)
    · exact .odd (W1.nes n1).1 (W1.nes n1).2 (U2 _ _ e1) (fun _ => kins_ints _) (List.all_eq_false.mpr ⟨some ((k : Nat) : Int), List.mem_map.mpr ⟨_, by unfold rangeI; exact List.mem_map.mpr ⟨k, List.mem_range.mpr (by omega), rfl⟩, rfl⟩, by simp [belB]⟩) (by rw [List.length_map, rangeI_len]; omega)
    · exact .odd (W4.nes n4).1 (W4.nes n4).2 (U5 _ _ e4) (os := some (0 - 1) :: t4.map some) (fun _ => .cons (.int _) (kins_ints _)) (by rw [List.all_cons]; rfl) (by show (t4.map V.int).length + 1 < _; rw [List.length_map, lt4]; omega)
    · exact .odd (W7.nes n7).1 (W7.nes n7).2 (U8 _ _ e7) (os := none :: (rangeI (k - 1)).map some) (fun _ => .cons (kin_bl _) (kins_ints _)) (by rw [List.all_cons]; rfl) (by show ((rangeI (k - 1)).map V.int).length + 1 < _; rw [List.length_map, rangeI_len]; omega)
    · exact .nums (W9.nes m1).1 (W9.nes m1).2 (U10 _ _ f1) (fun c hc => by unfold rangeI at hc; obtain ⟨i, hi, rfl⟩ := List.mem_map.mp hc; have := List.mem_range.mp hi; omega) (by rw [rangeI_len]; omega) (by rw [rangeI_len]; omega)
    · exact .nums (t := List.replicate (k + 1) 0) (W11.nes m3).1 (W11.nes m3).2 (by rw [List.map_replicate]; exact U12 _ _ f3) (fun c hc => by rw [List.eq_of_mem_replicate hc]; omega) (by rw [List.length_replicate]; omega) (by rw [List.length_replicate]; omega)
    · exact .odd (W14.nes m6).1 (W14.nes m6).2 (U15 _ _ f6) (os := some ((k : Nat) : Int) :: (rangeI (k - 1)).map some) (fun _ => .cons (.int _) (kins_ints _)) (by rw [List.all_cons]; simp [belB]) (by show ((rangeI (k - 1)).map V.int).length + 1 < _; rw [List.length_map, rangeI_len]; omega)
    · exact .tups (W17.nes m9).1 (W17.nes m9).2 (U18 _ _ f9) (U16 _ _ f7)
end
end K71

namespace K71
open PySem PySem.Spec PyProof.Rows L2 KX LamX RZ
local macro_rules | `(tactic| walk_at "rd1") => `(tactic| first
  | with_reducible refine rd_seq ?_
  | with_reducible refine rd_for ?_
  | with_reducible refine rd_lc ?_
  | with_reducible refine rd_asg ?_
  | ((with_reducible refine' rd_var ?rdv ?_); (case rdv => exact rfl))
  | with_reducible refine rd_c ?_
  | with_reducible refine rd_op ?_
  | with_reducible refine rd_un ?_
  | with_reducible refine rd_cons ?_
  | with_reducible refine rd_nil ?_
  | with_reducible refine rd_call ?_
  | with_reducible refine rd_cb ?_
  | with_reducible refine rd_tB ?_
  | with_reducible refine rd_test ?_
  | with_reducible refine rd_bl ?_
  | with_reducible refine rd_rI0 ?_
  | with_reducible refine rd_eqI ?_
  | with_reducible refine rd_neI ?_
  | with_reducible refine rd_rU ?_
  | with_reducible refine rd_name ?_
  | with_reducible refine rd_ifs ?_
  | with_reducible refine rd_and ?_
  | with_reducible refine rd_or ?_
  | with_reducible refine rd_not ?_
  | with_reducible refine rd_yes ?_
  | with_reducible refine rd_andV ?_
  | with_reducible refine rd_orV ?_
  | with_reducible refine rd_notV ?_
  | with_reducible refine rd_if ?_
  | with_reducible refine rd_isN ?_
  | with_reducible refine rd_iT ?_
  | with_reducible refine rd_iF ?_
  | with_reducible refine rd_ret ?_
  | with_reducible refine rd_retN ?_
  | with_reducible refine rd_drop ?_
  | with_reducible refine rd_next ?_
  | with_reducible refine rd_cont ?_
  | with_reducible refine rd_brk ?_
  | with_reducible refine rd_nx ?_
  | with_reducible refine rd_rt ?_
  | with_reducible refine rd_ct ?_
  | with_reducible refine rd_bk ?_
  | with_reducible refine rd_par ?_
  | with_reducible refine rd_par3 ?_
  | with_reducible refine rd_par2 ?_
  | with_reducible refine rd_par33 ?_
  | with_reducible refine rd_gcons ?_
  | with_reducible refine rd_gnil ?_
  | with_reducible refine rd_sub ?_
  | with_reducible refine rd_tup ?_
  | with_reducible refine rd_lst ?_
  | ((with_reducible refine rd_tupT ?hl ?_); (case hl => exact Nat.le_of_ble_eq_true rfl))
  | ((with_reducible refine rd_lstT ?hl ?_); (case hl => exact Nat.le_of_ble_eq_true rfl))
  | with_reducible refine rd_bm ?_
  | with_reducible refine rd_bm0 ?_
  | with_reducible refine rd_sl ?_
  | with_reducible refine rd_noP ?_
  | with_reducible refine rd_part ?_
  | with_reducible refine rd_int ?_
  | with_reducible refine rd_int1 ?_
  | with_reducible refine rd_fld ?_
  | with_reducible refine rd_then ?_
  | with_reducible refine rd_raise ?_
  | with_reducible refine rd_one ?_
  | with_reducible refine rd_sfld ?_
  | with_reducible refine rd_ilist ?_
  | with_reducible refine rd_itup ?_
  | with_reducible refine rd_rng1 ?_
  | with_reducible refine rd_enum ?_
  | with_reducible refine rd_enumT ?_)
local macro_rules | `(tactic| walk_at "rd") => `(tactic| repeat (walk_at "rd1"))
theorem tabs_fix {T : List (Addr × Str)} {H H' : Hp} {p q : Addr} (t : Tabs T H) (d : Deal H p q) (f : Fix p q H H') : Tabs T H' := fun z hz => by
  obtain ⟨ps, h1, h2, h3⟩ := t z hz
  refine ⟨ps, f.keep d h1 (fun xs e => nomatch e), h2, fun pos cv hc => ?_⟩
  obtain ⟨c, e1, e2⟩ := h3 pos cv hc
  exact ⟨c, e1, f.keep d e2 (fun xs e => by unfold CodeO at e; cases e)⟩
theorem Deal.extN {H H' : Hp} {p q : Addr} (d : Deal H p q) (e : ExtN H H') : Deal H' p q := by
  obtain ⟨ns, b, d⟩ := d
  exact ⟨ns, b, e _ _ d.hp (fun ps z => nomatch z), e _ _ d.hq (fun ps z => nomatch z), d.ne, d.nn, d.len, d.b0, d.b1⟩
/-- what the law's texts keep -/
structure Wd (tM p q : Addr) (H0 H : Hp) : Prop where
  d : Deal H p q
  t : Tabs [(tM, qM)] H
  k : Kp p q H0 H
theorem Wd.same {tM p q : Addr} {H0 H H' : Hp} (b : Wd tM p q H0 H) (s : Same H H') : Wd tM p q H0 H' := ⟨b.d.same s, b.t.ext s, b.k.trans (Kp.same s)⟩
theorem Wd.fix {tM p q : Addr} {H0 H H' : Hp} (b : Wd tM p q H0 H) (d : Deal H' p q) (f : Fix p q H H') : Wd tM p q H0 H' := ⟨d, tabs_fix b.t b.d f, b.k.trans (Kp.fix b.d f)⟩
theorem Wd.extN {tM p q : Addr} {H0 H H' : Hp} (b : Wd tM p q H0 H) (e : ExtN H H') (t : Tabs [(tM, qM)] H') : Wd tM p q H0 H' := ⟨b.d.extN e, t, b.k.trans (Kp.extN e)⟩
theorem rd_ttr {CQ CR : Addr} {tl : XK → Hp → VK → Prop} {H : Hp} {Q : VK} (h : tl (HearR CQ CR Q) H (fun _ H' => Q .non H')) : TTr CQ CR tl H Q := h
theorem told_q {CQ CR : Addr} {H : Hp} {Q : VK} {i : Int} (h : ∀ H' r, Same H H' → H' r = some (.tup [.str "question", .int i]) → Q (.ref r) H') : ErrAt CQ (HearR CQ CR Q) H i := fun H' d S hd =>
  ⟨d, .int i, rfl, upd_same, .inl ⟨rfl, fun r H2 _ S2 e2 => h H2 r ((S.trans (Same.fresh hd)).trans S2) e2⟩⟩
theorem told_r {CQ CR : Addr} {H : Hp} {Q : VK} {i : Int} (h : ∀ H' r, Same H H' → H' r = some (.tup [.str "refused", .int i]) → Q (.ref r) H') : ErrAt CR (HearR CQ CR Q) H i := fun H' d S hd =>
  ⟨d, .int i, rfl, upd_same, .inr ⟨rfl, fun r H2 _ S2 e2 => h H2 r ((S.trans (Same.fresh hd)).trans S2) e2⟩⟩
theorem dp_word {K : PySem.W.Frag} {H : Hp} {r : Addr} {w : Str} {i : Int} (h : H r = some (.tup [.str w, .int i])) : Dp K H (.ref r) (.tuple [.str w, .int i]) := .tup (SqT.of h) (.cons (.str w) (.cons (.int i) .nil))
theorem sh_word (w : Str) (i : Int) (hw : PyData.strOk w = true) : SeqAt.shaped (.tuple [.str w, .int i]) = true := by
  simp [SeqAt.shaped, PyData.canLay0, PyData.canLayAll0, PyData.depth, PyData.depthAll, hw]
theorem eqv_word (w : Str) (i : Int) : PyData.eqv (.tuple [.str w, .int i]) (.tuple [.str w, .int i]) = true := by
  simp [PyData.eqv, PyData.eqvAll]
theorem rd_neWord {K : PySem.W.Frag} {H : Hp} {Q : VK} {r s : Addr} {w : Str} {i : Int} (hr : H r = some (.tup [.str w, .int i])) (hs : H s = some (.tup [.str w, .int i])) (h : Q (.bl false) H) (hw : PyData.strOk w = true := by decide +kernel) : rNeD K (.ref r) (.ref s) H Q :=
  ⟨_, _, dp_word hr, dp_word hs, sh_word w i hw, sh_word w i hw, by rw [eqv_word]; exact h⟩
theorem rd_eqWord {K : PySem.W.Frag} {H : Hp} {Q : VK} {r s : Addr} {w : Str} {i : Int} (hr : H r = some (.tup [.str w, .int i])) (hs : H s = some (.tup [.str w, .int i])) (h : Q (.bl true) H) (hw : PyData.strOk w = true := by decide +kernel) : rEqD K (.ref r) (.ref s) H Q :=
  ⟨_, _, dp_word hr, dp_word hs, sh_word w i hw, sh_word w i hw, by rw [eqv_word]; exact h⟩
/-- data of a sequence of numbers -/
inductive IntsD : PyData → Prop
  | lst (ns : List Int) : IntsD (.list (ns.map PyData.int))
  | tup (ns : List Int) : IntsD (.tuple (ns.map PyData.int))
theorem IntsD.lay {d : PyData} (h : IntsD d) : d.canLay0 = true ∧ d.depth ≤ 2 := by
  cases h with
  | lst ns => exact ⟨by show PyData.canLayAll0 _ = true; exact lay_ints ns, by show PyData.depthAll _ + 1 ≤ 2; have := dep_ints ns; omega⟩
  | tup ns => exact ⟨by show PyData.canLayAll0 _ = true; exact lay_ints ns, by show PyData.depthAll _ + 1 ≤ 2; have := dep_ints ns; omega⟩
theorem intsDs : ∀ {ds : List PyData}, (∀ d ∈ ds, IntsD d) → PyData.canLayAll0 ds = true ∧ PyData.depthAll ds ≤ 2
  | [], _ => ⟨rfl, by decide⟩
  | d :: ds, h => by
    obtain ⟨a1, a2⟩ := (h d (by simp)).lay
    obtain ⟨b1, b2⟩ := intsDs (ds := ds) fun x hx => h x (by simp [hx])
    refine ⟨?_, ?_⟩
    · show (d.canLay0 && PyData.canLayAll0 ds) = true
      rw [a1, b1]; rfl
    · show max d.depth (PyData.depthAll ds) ≤ 2
      omega
theorem sh_turns {ds : List PyData} (h : ∀ d ∈ ds, IntsD d) : SeqAt.shaped (.list ds) = true := by
  obtain ⟨a, b⟩ := intsDs h
  have h1 : PyData.depth (.list ds) = PyData.depthAll ds + 1 := rfl
  have h2 : PyData.canLay0 (.list ds) = PyData.canLayAll0 ds := rfl
  unfold SeqAt.shaped
  rw [h2, a, h1, Bool.true_and]
  exact decide_eq_true (by omega)
theorem turn_dp {K : PySem.W.Frag} {H : Hp} {x : V} {t : List Int} (h : TurnAt K H x t) : ∃ d, Dp K H x d ∧ IntsD d := by
  unfold TurnAt at h
  generalize e : some (t.map V.int) = o at h
  cases h with
  | lst h => cases e; exact ⟨_, dp_ints h, .lst t⟩
  | tup h => cases e; exact ⟨_, .tup h.sq (dpAll_ints K H t), .tup t⟩
  | oth _ _ _ => cases e
theorem turns_dp {K : PySem.W.Frag} {H : Hp} {xs : List V} {ts : List (List Int)} (h : Paired (TurnAt K H) xs ts) : ∃ ds, DpAll K H xs ds ∧ (∀ d ∈ ds, IntsD d) ∧ ds.length = xs.length := by
  induction h with
  | nil => exact ⟨[], .nil, fun d h => by simp at h, rfl⟩
  | cons a _ ih =>
    obtain ⟨d, h1, h2⟩ := turn_dp a
    obtain ⟨ds, h3, h4, h5⟩ := ih
    refine ⟨d :: ds, .cons h1 h3, fun x hx => ?_, by rw [List.length_cons, List.length_cons, h5]⟩
    rcases List.mem_cons.mp hx with rfl | z
    · exact h2
    · exact h4 x z
theorem rd_neEmp {K : PySem.W.Frag} {H : Hp} {Q : VK} {a e : Addr} {xs : List V} {ts : List (List Int)} (ha : H a = some (.lst xs)) (p : Paired (TurnAt K H) xs ts) (he : H e = some (.lst [])) (h : Q (.bl (!decide (xs = []))) H) : rNeD K (.ref a) (.ref e) H Q := by
  obtain ⟨ds, h1, h2, h3⟩ := turns_dp p
  refine ⟨_, _, .lst (SqL.of ha) h1, .lst (ds := []) (SqL.of he) .nil, sh_turns h2, by decide, ?_⟩
  have : PyData.eqv (.list ds) (.list []) = decide (xs = []) := by
    cases ds with
    | nil => have : xs = [] := List.length_eq_zero_iff.mp h3.symm; rw [this]; rfl
    | cons d ds => cases xs with
      | nil => simp at h3
      | cons x xs => rfl
  rw [this]; exact h
/-- a turn that the deal doesn't touch -/
def TurnK (K : PySem.W.Frag) (p q : Addr) (H : Hp) (x : V) (t : List Int) : Prop := ∃ a, x = .ref a ∧ a ≠ p ∧ a ≠ q ∧ TurnAt K H x t
theorem TurnK.kp {K : PySem.W.Frag} {p q : Addr} {H H' : Hp} {x : V} {t : List Int} (h : TurnK K p q H x t) (k : Kp p q H H') : TurnK K p q H' x t := by
  obtain ⟨a, rfl, h1, h2, h⟩ := h
  refine ⟨a, rfl, h1, h2, ?_⟩
  unfold TurnAt at h ⊢
  generalize e : some (t.map V.int) = o at h
  cases h with
  | lst h => cases e; exact .lst (k.ls _ _ h1 h2 h)
  | tup h => cases e; exact .tup (k.tupR h)
  | oth _ _ _ => cases e
/-- what is no number of copies -/
def Wr (K : PySem.W.Frag) (H : Hp) (x : V) : Prop := (∃ o, okC o = false ∧ ∀ H', Kin K H' x o) ∨ ∃ a, x = .ref a ∧ H a = some (.tup [.int 2])
theorem Wr.kp {K : PySem.W.Frag} {p q : Addr} {H H' : Hp} {x : V} (h : Wr K H x) (k : Kp p q H H') : Wr K H' x := by
  rcases h with h | ⟨a, rfl, h⟩
  · exact .inl h
  · exact .inr ⟨a, rfl, k.tup h⟩
theorem Wr.kin {K : PySem.W.Frag} {H : Hp} {x : V} (h : Wr K H x) : ∃ o, Kin K H x o ∧ okC o = false := by
  rcases h with ⟨o, h1, h2⟩ | ⟨a, rfl, h⟩
  · exact ⟨o, h2 H, h1⟩
  · exact ⟨none, kin_tup h, rfl⟩
/-- what has not one thing for each link -/
inductive Th (K : PySem.W.Frag) (p q : Addr) (H : Hp) (n : Nat) : V → Prop
  | any {x : V} (h : ∀ H', SqX K H' x none) : Th K p q H n x
  | dic {a : Addr} (h : H a = some (.dK [])) : Th K p q H n (.ref a)
  | lst {a : Addr} {xs : List V} (ap : a ≠ p) (aq : a ≠ q) (h : H a = some (.lst xs)) (l : xs.length ≠ n) : Th K p q H n (.ref a)
theorem Th.kp {K : PySem.W.Frag} {p q : Addr} {H H' : Hp} {n : Nat} {x : V} (h : Th K p q H n x) (s : Kp p q H H') : Th K p q H' n x := by
  cases h with
  | any h => exact .any h
  | dic h => exact .dic (s.nl _ _ h (fun xs e => nomatch e) (fun ps e => nomatch e))
  | lst ap aq h l => exact .lst ap aq (s.ls _ _ ap aq h) l
theorem Th.sq {K : PySem.W.Frag} {p q : Addr} {H : Hp} {n : Nat} {x : V} (h : Th K p q H n x) : ∃ zo, SqX K H x zo ∧ (zo = none ∨ ∃ xs, zo = some xs ∧ xs.length ≠ n) := by
  cases h with
  | any h => exact ⟨none, h H, .inl rfl⟩
  | dic h => exact ⟨none, sq_dic h, .inl rfl⟩
  | lst ap aq h l => exact ⟨_, .lst h, .inr ⟨_, rfl, l⟩⟩
section
variable {K : PySem.W.Frag} {C CQ CR n p q : Addr} {ms : List Int} {L : List (Int × Int)} {x z : V} {H : Hp} {Q : VK} {E : XK}
theorem cov_1 (hN : NetL C H n ms L) (hx : Wr K H x) (hz : Th K p q H L.length z) (h : ErrAt CQ E H 1) : spCover K C CQ CR [.ref n, x, z] H Q E := by
  obtain ⟨o, k1, k2⟩ := hx.kin
  obtain ⟨zo, s1, _⟩ := hz.sq
  exact ⟨n, x, z, ms, L, o, zo, rfl, hN, k1, s1, fun _ => h, fun e => by rw [k2] at e; cases e⟩
theorem shi_1 (hN : NetL C H n ms L) (hx : Wr K H x) (hz : Th K p q H L.length z) (h : ErrAt CQ E H 1) : spShifted K C CQ CR [.ref n, x, z] H Q E := by
  obtain ⟨o, k1, k2⟩ := hx.kin
  obtain ⟨zo, s1, _⟩ := hz.sq
  exact ⟨n, x, z, ms, L, o, zo, rfl, hN, k1, s1, fun _ => h, fun e => by rw [k2] at e; cases e⟩
theorem okC_nat {k : Nat} (k1 : 1 ≤ k) (k9 : k ≤ 1000) : okC (some (k : Int)) = true := by
  show (decide (1 ≤ (k : Int)) && decide ((k : Int) ≤ 1000)) = true
  rw [decide_eq_true (by omega : 1 ≤ (k : Int)), decide_eq_true (by omega : (k : Int) ≤ 1000)]; rfl
theorem cov_2 {k : Nat} (k1 : 1 ≤ k) (k9 : k ≤ 1000) (hN : NetL C H n ms L) (hz : Th K p q H L.length z) (h : ErrAt CQ E H 2) : spCover K C CQ CR [.ref n, .int (k : Nat), z] H Q E := by
  obtain ⟨zo, s1, s2⟩ := hz.sq
  refine ⟨n, _, z, ms, L, some (k : Int), zo, rfl, hN, .int _, s1, fun e => (by rw [okC_nat k1 k9] at e; cases e), fun _ => ⟨fun _ => h, fun xs e1 e2 => ?_⟩⟩
  rcases s2 with e | ⟨ys, e, l⟩
  · rw [e] at e1; cases e1
  · rw [e] at e1; cases e1; exact absurd e2 l
theorem shi_2 {k : Nat} (k1 : 1 ≤ k) (k9 : k ≤ 1000) (hN : NetL C H n ms L) (hz : Th K p q H L.length z) (h : ErrAt CQ E H 2) : spShifted K C CQ CR [.ref n, .int (k : Nat), z] H Q E := by
  obtain ⟨zo, s1, s2⟩ := hz.sq
  refine ⟨n, _, z, ms, L, some (k : Int), zo, rfl, hN, .int _, s1, fun e => (by rw [okC_nat k1 k9] at e; cases e), fun _ => ⟨fun _ => h, fun xs e1 e2 => ?_⟩⟩
  rcases s2 with e | ⟨ys, e, l⟩
  · rw [e] at e1; cases e1
  · rw [e] at e1; cases e1; exact absurd e2 l
end
theorem tabs_upd {T : List (Addr × Str)} {H : Hp} {a : Addr} {xs : List V} {o : HO} (t : Tabs T H) (ha : H a = some (.lst xs)) : Tabs T (upd H a o) := fun z hz => by
  obtain ⟨ps, h1, h2, h3⟩ := t z hz
  refine ⟨ps, ?_, h2, fun pos cv hc => ?_⟩
  · rw [upd_ne (fun e => by rw [e, ha] at h1; cases h1)]; exact h1
  · obtain ⟨c, e1, e2⟩ := h3 pos cv hc
    refine ⟨c, e1, ?_⟩
    rw [upd_ne (fun e => by rw [e, ha] at e2; unfold CodeO at e2; cases e2)]; exact e2
theorem ix_nat {n j : Nat} (hj : j < n) : ixN n ((j : Nat) : Int) = some j := by
  unfold ixN
  simp
  omega
theorem rd_iT' {b : Bool} {A B : Prop} (e : b = true) (h : A) : ∃ c, V.bl b = V.bl c ∧ if c = true then A else B := ⟨true, by rw [e], h⟩
theorem rd_iF' {b : Bool} {A B : Prop} (e : b = false) (h : B) : ∃ c, V.bl b = V.bl c ∧ if c = true then A else B := ⟨false, by rw [e], by rw [if_neg Bool.false_ne_true]; exact h⟩
def spRR (K : PySem.W.Frag) (C tM : Addr) : L2.Sp := fun vs H Q _ => ∃ (p q n pl pt ps : Addr) (k : Nat) (ms : List Int) (L : List (Int × Int)) (ls : List Addr) (xs : List V) (ts : List (List Int)) (ss : List Int), vs = [.ref p, .ref n, .ref pl, .int (k : Nat), .ref pt, .ref ps] ∧ Wd tM p q H H ∧ 1 ≤ k ∧ k ≤ 12 ∧
  NetL C H n ms L ∧ Ov ms L k ∧ L.length ≤ 32 ∧ pl ≠ p ∧ pl ≠ q ∧ H pl = some (.lst (ls.map V.ref)) ∧ Paired (PairAt H) ls L ∧ pt ≠ p ∧ pt ≠ q ∧ H pt = some (.lst xs) ∧ Paired (TurnK K p q H) xs ts ∧ ts.length = L.length ∧ (∀ t ∈ ts, IsTurn k t) ∧
  ps ≠ p ∧ ps ≠ q ∧ H ps = some (.lst (ss.map V.int)) ∧ ss.length = L.length ∧ ∀ H', Wd tM p q H H' → Q (.bl true) H'
theorem turnk_at {K : PySem.W.Frag} {p q : Addr} {H : Hp} {xs : List V} {ts : List (List Int)} (h : Paired (TurnK K p q H) xs ts) : Paired (TurnAt K H) xs ts := paired_mono h fun _ _ ⟨_, e, _, _, z⟩ => z
theorem turnks_kp {K : PySem.W.Frag} {p q : Addr} {H H' : Hp} {xs : List V} {ts : List (List Int)} (h : Paired (TurnK K p q H) xs ts) (k : Kp p q H H') : Paired (TurnK K p q H') xs ts := paired_mono h fun _ _ z => z.kp k
theorem turnk_x {K : PySem.W.Frag} {p q : Addr} {H : Hp} {k : Nat} {x : V} {t : List Int} (h : TurnK K p q H x t) (i : IsTurn k t) (k9 : k ≤ 12) : TurnX K H k x true := by
  obtain ⟨a, rfl, _, _, h⟩ := h
  have l := i.len
  have : decide (sortI t = rangeI k) = true := decide_eq_true (turn_iff.mpr i)
  rw [← this]
  refine .nums h (fun c hc => ?_) (by omega)
  have := i.pm.mem_iff.mp hc
  unfold rangeI at this
  obtain ⟨m, hm, rfl⟩ := List.mem_map.mp this
  have := List.mem_range.mp hm
  omega
theorem turnks_x {K : PySem.W.Frag} {p q : Addr} {H : Hp} {k : Nat} (k9 : k ≤ 12) {xs : List V} {ts : List (List Int)} (h : Paired (TurnK K p q H) xs ts) (tt : ∀ t ∈ ts, IsTurn k t) : Paired (TurnX K H k) xs (List.replicate xs.length true) := by
  induction h with
  | nil => exact .nil
  | cons a _ ih => exact .cons (turnk_x a (tt _ (by simp)) k9) (ih fun t ht => tt t (by simp [ht]))
theorem paired_tk {α β : Type} {F : α → β → Prop} {l : List α} {m : List β} (h : Paired F l m) : ∀ i, Paired F (l.take i) (m.take i) := by
  induction h with
  | nil => intro i; rw [List.take_nil, List.take_nil]; exact .nil
  | cons a _ ih => intro i; cases i with
    | zero => exact .nil
    | succ i => exact .cons a (ih i)
theorem paired_dp {α β : Type} {F : α → β → Prop} {l : List α} {m : List β} (h : Paired F l m) : ∀ i, Paired F (l.drop i) (m.drop i) := by
  induction h with
  | nil => intro i; rw [List.drop_nil, List.drop_nil]; exact .nil
  | cons a t ih => intro i; cases i with
    | zero => exact .cons a t
    | succ i => exact ih i
theorem bad_at {A B : List Bool} {j : Nat} (hA : ∀ b ∈ A, b = true) (l : A.length = j) : BadB (A ++ [false] ++ B) j := by
  refine ⟨?_, fun i hi => ?_⟩
  · rw [List.append_assoc, List.getElem?_append_right (by omega)]; simp [l]
  · rw [List.append_assoc, List.getElem?_append_left (by omega), List.getElem?_eq_getElem (by omega)]
    rw [hA _ (List.getElem_mem _)]
theorem BadB.uniq {cs : List Bool} {i j : Nat} (h : BadB cs i) (h' : BadB cs j) : i = j := by
  obtain ⟨a, b⟩ := h
  obtain ⟨a', b'⟩ := h'
  rcases Nat.lt_trichotomy i j with z | z | z
  · rw [b' i z] at a; cases a
  · exact z
  · rw [b j z] at a'; cases a'
theorem BadB.not {cs : List Bool} {i : Nat} (h : BadB cs i) (all : ∀ c ∈ cs, c = true) : False := by
  have := all _ (List.mem_of_getElem? h.1)
  cases this
section
variable {K : PySem.W.Frag} {C CQ CR n p q : Addr} {ms : List Int} {L : List (Int × Int)} {x z : V} {H : Hp} {Q : VK} {E : XK}
theorem cov_3 {k j : Nat} {xs : List V} {cs : List Bool} (k1 : 1 ≤ k) (k9 : k ≤ 1000) (hN : NetL C H n ms L) (hz : SqX K H z (some xs)) (lx : xs.length = L.length) (pc : Paired (TurnX K H k) xs cs) (b : BadB cs j) (h : ErrAt CR E H (j : Nat)) : spCover K C CQ CR [.ref n, .int (k : Nat), z] H Q E := by
  refine ⟨n, _, z, ms, L, some (k : Int), some xs, rfl, hN, .int _, hz, fun e => (by rw [okC_nat k1 k9] at e; cases e), fun _ => ⟨fun e => ?_, fun ys e1 e2 => ?_⟩⟩
  · rcases e with e | ⟨ys, e, l⟩
    · cases e
    · cases e; exact absurd lx l
  · cases e1
    exact ⟨k, cs, rfl, k9, pc, fun i bi => by rw [bi.uniq b]; exact h, fun all => (b.not all).elim⟩
theorem shi_3 {k j : Nat} {xs : List V} {os : List (Option Int)} (k1 : 1 ≤ k) (k9 : k ≤ 1000) (hN : NetL C H n ms L) (hz : SqX K H z (some xs)) (lx : xs.length = L.length) (pc : Paired (Kin K H) xs os) (b : BadB (os.map intB) j) (h : ErrAt CR E H (j : Nat)) : spShifted K C CQ CR [.ref n, .int (k : Nat), z] H Q E := by
  refine ⟨n, _, z, ms, L, some (k : Int), some xs, rfl, hN, .int _, hz, fun e => (by rw [okC_nat k1 k9] at e; cases e), fun _ => ⟨fun e => ?_, fun ys e1 e2 => ?_⟩⟩
  · rcases e with e | ⟨ys, e, l⟩
    · cases e
    · cases e; exact absurd lx l
  · cases e1
    exact ⟨k, os, rfl, k9, pc, fun i bi => by rw [bi.uniq b]; exact h, fun all => (b.not fun c hc => by obtain ⟨o, ho, rfl⟩ := List.mem_map.mp hc; exact all o ho).elim⟩
end
/-- what is no shift -/
def Od (K : PySem.W.Frag) (p q : Addr) (H : Hp) (x : V) : Prop := (∀ H', Kin K H' x none) ∨ (∃ a, x = .ref a ∧ H a = some (.tup [.int 1])) ∨ ∃ a, x = .ref a ∧ a ≠ p ∧ a ≠ q ∧ H a = some (.lst [.int 0])
theorem Od.kp {K : PySem.W.Frag} {p q : Addr} {H H' : Hp} {x : V} (h : Od K p q H x) (k : Kp p q H H') : Od K p q H' x := by
  rcases h with h | ⟨a, e, h⟩ | ⟨a, e, h1, h2, h⟩
  · exact .inl h
  · exact .inr (.inl ⟨a, e, k.tup h⟩)
  · exact .inr (.inr ⟨a, e, h1, h2, k.ls _ _ h1 h2 h⟩)
theorem Od.kin {K : PySem.W.Frag} {p q : Addr} {H : Hp} {x : V} (h : Od K p q H x) : Kin K H x none := by
  rcases h with h | ⟨a, rfl, h⟩ | ⟨a, rfl, h1, h2, h⟩
  · exact h H
  · exact kin_tup h
  · exact kin_lst h
set_option hygiene false in
local macro_rules | `(tactic| walk_at "rr_loop") => `(tactic| (
  walk_at "rd"
  intro r Hr nr Sr er
  walk_at "rd"
  refine ⟨r, rfl, ⟨_, SqT.of er⟩, ?_⟩
  have Wr0 := Wz.same Sr
  have wr0 := wrz.kp (Kp.same (p := p) (q := q) Sr)
  have th0 := thz.kp (Kp.same (p := p) (q := q) Sr)
  refine for_it (walk_tup (K := K) (xs := [V.ref T.f_cover, V.ref T.f_shifted])) (fun i σ H' => (∃ o10, σ = [some (.ref p), some (.ref n), some (.ref pl), some (.int (k : Nat)), some (.ref pt), some (.ref ps), none, none, none, some z, o10, some x]) ∧ Wd tM p q H H' ∧ Kp p q Hr H')
    ⟨⟨_, rfl⟩, Wr0, Kp.refl⟩ (fun i σ H' _ pv => SqT.of (pv.2.2.tup er)) (fun i v σ Ha Hb hi pv y => ?_) (fun σ Ha pv => ?_)
  · obtain ⟨rfl, hv⟩ := y
    obtain ⟨⟨o10, rfl⟩, Wa, ka⟩ := pv
    have hi : i = 0 ∨ i = 1 := by have : i < 2 := hi; omega
    rcases hi with rfl | rfl
    · have hv : some (V.ref T.f_cover) = some v := hv
      cases hv
      walk_at "rd"
      refine rd_lam Wa.t fun Hc eN Tc => rd_ttr (.inl ⟨rfl, ?_⟩)
      have Wc := Wa.extN eN Tc
      have kc := ka.trans (Kp.extN eN)
      walk_at "rd"
      refine cov_1 (Wc.k.net hN) (wr0.kp kc) (th0.kp kc) (told_q fun Hd rd Sd ed => ?_)
      have Wd' := Wc.same Sd
      have kd := kc.trans (Kp.same Sd)
      walk_at "rd"
      intro re He ne Se ee
      refine rd_neWord (Se _ _ ed) ee ?_
      walk_at "rd"
      try with_reducible refine iteF' rfl ?_
      have We := Wd'.same Se
      have ke := kd.trans (Kp.same Se)
      walk_at "rd"
      refine rd_lam We.t fun Hf eN Tf => rd_ttr (.inl ⟨rfl, ?_⟩)
      have Wf := We.extN eN Tf
      have kf := ke.trans (Kp.extN eN)
      walk_at "rd"
      refine cov_2 k1 (by omega) (Wf.k.net hN) (th0.kp kf) (told_q fun Hg rg Sg eg => ?_)
      have Wg := Wf.same Sg
      have kg := kf.trans (Kp.same Sg)
      walk_at "rd"
      intro rh Hh nh Sh eh
      refine rd_neWord (Sh _ _ eg) eh ?_
      walk_at "rd"
      try with_reducible refine iteF' rfl ?_
      walk_at "rd"
      exact ⟨⟨_, rfl⟩, Wg.same Sh, kg.trans (Kp.same Sh)⟩
    · have hv : some (V.ref T.f_shifted) = some v := hv
      cases hv
      walk_at "rd"
      refine rd_lam Wa.t fun Hc eN Tc => rd_ttr (.inr ⟨rfl, ?_⟩)
      have Wc := Wa.extN eN Tc
      have kc := ka.trans (Kp.extN eN)
      walk_at "rd"
      refine shi_1 (Wc.k.net hN) (wr0.kp kc) (th0.kp kc) (told_q fun Hd rd Sd ed => ?_)
      have Wd' := Wc.same Sd
      have kd := kc.trans (Kp.same Sd)
      walk_at "rd"
      intro re He ne Se ee
      refine rd_neWord (Se _ _ ed) ee ?_
      walk_at "rd"
      try with_reducible refine iteF' rfl ?_
      have We := Wd'.same Se
      have ke := kd.trans (Kp.same Se)
      walk_at "rd"
      refine rd_lam We.t fun Hf eN Tf => rd_ttr (.inr ⟨rfl, ?_⟩)
      have Wf := We.extN eN Tf
      have kf := ke.trans (Kp.extN eN)
      walk_at "rd"
      refine shi_2 k1 (by omega) (Wf.k.net hN) (th0.kp kf) (told_q fun Hg rg Sg eg => ?_)
      have Wg := Wf.same Sg
      have kg := kf.trans (Kp.same Sg)
      walk_at "rd"
      intro rh Hh nh Sh eh
      refine rd_neWord (Sh _ _ eg) eh ?_
      walk_at "rd"
      try with_reducible refine iteF' rfl ?_
      walk_at "rd"
      exact ⟨⟨_, rfl⟩, Wg.same Sh, kg.trans (Kp.same Sh)⟩))
section
variable {P : Program} {w : World} {K : PySem.W.Frag} {mg : Str → Option Value} {base : Heap} (T : TX K mg)
theorem G__law_refusals_right {cM tM CN : Addr} (B : TabB base mg cM tM) (IR : IsR K T.c_InvalidQuestion T.c_Refused) (gN : mg "NetError" = some (.ref CN)) (F : DefC K "_law_refusals_right" s__law_refusals_right T.f__law_refusals_right cM T.d__law_refusals_right) :
    FnOk P w K mg base CX0 12 T.f__law_refusals_right T.d__law_refusals_right ["_law_deal", "_law_network_here", "_law_links_here", "_law_copies", "_law_turns", "_law_shifts"] (spRR K T.c_Network tM) := by
  have bR := T.b__law_refused
  obtain ⟨oc', od', kV', doc', pm', an', cdv', ct', osl', eR, lkR, hcR⟩ := T.F__law_refused.ex
  rw [eR] at bR lkR
  obtain ⟨oc, od, kV, doc, pm, an, ct, osl, eF, lk, hcd⟩ := F
  rw [eF] at lk ⊢
  refine fn_of lk hcd sc__law_refusals_right (fun vs H Q E h => ?_) fun A outer s H vs Q E hr h => ⟨_, PSs.nox (pss_cons (ps_set (i := 11) sc__law_refusals_right.nd rfl (.inr rfl) (pe_call (G__law_of T) (hr.mono (by decide)) (by rfl) T.m__law_of T.F__law_of.kp T.b__law_of .nil pass0 (by exact (pa_cons (pv 0) (pa_cons (pe_lst (pa_cons pe_int (pa_cons (pe_op op_sub pe_int pe_int) (pa_cons pe_bl (pa_cons pe_non (pa_cons pe_str (pa_cons (pe_tup (pa_cons pe_int pa_nil)) (pa_cons pe_int pa_nil)))))))) pa_nil))))) (pss_cons (ps_set (i := 9) sc__law_refusals_right.nd rfl (.inr rfl) (pe_call (G__law_of T) (hr.mono (by decide)) (by rfl) T.m__law_of T.F__law_of.kp T.b__law_of .nil pass0 (by exact (pa_cons (pv 0) (pa_cons (pe_lst (pa_cons pe_non (pa_cons pe_int (pa_cons pe_dnewK (pa_cons (pe_op op_cat (pv 4) (pe_lst (pa_cons (pe_ifExp (pt_cmpR (op_neDK (K := K) hr.units) (pv 4) (pe_lst pa_nil) (nomark _)) (pe_ix (ix_listK (K := K)) (pv 4) pe_int (fun _ _ => rfl)) pe_int) pa_nil))) (pa_cons (pe_ifExp (pt_cmpR (op_neDK (K := K) hr.units) (pv 4) (pe_lst pa_nil) (nomark _)) (pe_slice (sl_listK (K := K)) (pv 4) (po_some pe_int) po_none) (pe_lst (pa_cons pe_int pa_nil))) (pa_cons pe_str pa_nil))))))) pa_nil))))) (pss_cons (ps_for PassesOwn.never rfl (pi_tupK (K := K) (pe_tup (pa_cons (pe_glob (v := .ref T.f_cover) rfl T.m_cover rfl) (pa_cons (pe_glob (v := .ref T.f_shifted) rfl T.m_shifted rfl) pa_nil)))) (pg_name (i := 10) sc__law_refusals_right.nd rfl (.inr rfl)) (pss_cons (ps_if (pt_cmpR (op_neDK (K := K) hr.units) (by exact (pe_lamcall (T := [(tM, qM)]) (TT := TTr T.c_InvalidQuestion T.c_Refused) (Ng := ["_law_work", "error"]) (a := "_law_work") (k := 9) (by rfl) T.m__law_refused T.F__law_refused.kp lkR hcR bR sc__law_refused rfl (.inl rfl) (gives IR T.E_InvalidQuestion.gC T.E_Refused.gC gN) B rfl (.head _) (fun p hp _ => by rw [List.mem_singleton.mp hp]; rfl) (hr.mono (by decide)) (show LamS (defScope s__law_refusals_right) _ from lamS_by (by decide +kernel)) rfl (fun _ _ _ _ _ => rfl) (fun A' outer' s' H' E' f' c' hr' => (pe_alt (pe_callL (i := 10) (G_cover T) hr' (by rfl) (by first | exact Or.inl rfl | exact Or.inr (Or.inl rfl) | exact Or.inr (Or.inr rfl)) T.F_cover.kp T.b_cover .nil (passes_call (takes_of rfl rfl rfl rfl) fun _ _ _ _ z => z) (by exact (pa_cons (pv 1) (pa_cons (pv 11) (pa_cons (pv 9) pa_nil))))) (pe_callL (i := 10) (G_shifted T) hr' (by rfl) (by first | exact Or.inl rfl | exact Or.inr (Or.inl rfl) | exact Or.inr (Or.inr rfl)) T.F_shifted.kp T.b_shifted .nil (passes_call (takes_of rfl rfl rfl rfl) fun _ _ _ _ z => z) (by exact (pa_cons (pv 1) (pa_cons (pv 11) (pa_cons (pv 9) pa_nil))))))))) (pe_tup (pa_cons pe_str (pa_cons pe_int pa_nil))) (nomark _)) (pss_one (ps_ret pe_bl)) pss_nil) (pss_one (ps_if (pt_cmpR (op_neDK (K := K) hr.units) (by exact (pe_lamcall (T := [(tM, qM)]) (TT := TTr T.c_InvalidQuestion T.c_Refused) (Ng := ["_law_work", "error"]) (a := "_law_work") (k := 9) (by rfl) T.m__law_refused T.F__law_refused.kp lkR hcR bR sc__law_refused rfl (.inl rfl) (gives IR T.E_InvalidQuestion.gC T.E_Refused.gC gN) B rfl (.head _) (fun p hp _ => by rw [List.mem_singleton.mp hp]; rfl) (hr.mono (by decide)) (show LamS (defScope s__law_refusals_right) _ from lamS_by (by decide +kernel)) rfl (fun _ _ _ _ _ => rfl) (fun A' outer' s' H' E' f' c' hr' => (pe_alt (pe_callL (i := 10) (G_cover T) hr' (by rfl) (by first | exact Or.inl rfl | exact Or.inr (Or.inl rfl) | exact Or.inr (Or.inr rfl)) T.F_cover.kp T.b_cover .nil (passes_call (takes_of rfl rfl rfl rfl) fun _ _ _ _ z => z) (by exact (pa_cons (pv 1) (pa_cons (pv 3) (pa_cons (pv 9) pa_nil))))) (pe_callL (i := 10) (G_shifted T) hr' (by rfl) (by first | exact Or.inl rfl | exact Or.inr (Or.inl rfl) | exact Or.inr (Or.inr rfl)) T.F_shifted.kp T.b_shifted .nil (passes_call (takes_of rfl rfl rfl rfl) fun _ _ _ _ z => z) (by exact (pa_cons (pv 1) (pa_cons (pv 3) (pa_cons (pv 9) pa_nil))))))))) (pe_tup (pa_cons pe_str (pa_cons pe_int pa_nil))) (nomark _)) (pss_one (ps_ret pe_bl)) pss_nil)))) (pss_cons (ps_if (pt_cmpR (op_eqDK (K := K) hr.units) (pv 2) (pe_lst pa_nil) (nomark _)) (pss_one (ps_ret pe_bl)) pss_nil) (pss_cons (ps_set (i := 6) sc__law_refusals_right.nd rfl (.inl rfl) (pe_call (G__law_any T) (hr.mono (by decide)) (by rfl) T.m__law_any T.F__law_any.kp T.b__law_any .nil pass0 (by exact (pa_cons (pv 0) (pa_cons (pe_callB (cr_lenK (K := K)) (by rfl) T.n_len (by decide +kernel) (by exact (pa_cons (pv 2) pa_nil))) pa_nil))))) (pss_cons (ps_set (i := 7) sc__law_refusals_right.nd rfl (.inr rfl) (pe_op op_cat (pe_op op_cat (pe_slice (sl_listK (K := K)) (pv 4) po_none (po_some (pv 6))) (pe_lst (pa_cons (pe_call (G__law_bad_turn T) (hr.mono (by decide)) (by rfl) T.m__law_bad_turn T.F__law_bad_turn.kp T.b__law_bad_turn .nil pass0 (by exact (pa_cons (pv 0) (pa_cons (pv 3) pa_nil)))) pa_nil))) (pe_slice (sl_listK (K := K)) (pv 4) (po_some (pe_op op_add (pv 6) pe_int)) po_none))) (pss_cons (ps_if (PW.pt (pw_and (pt_cmpR op_lt (pe_op op_add (pv 6) pe_int) (pe_callB (cr_lenK (K := K)) (by rfl) T.n_len (by decide +kernel) (by exact (pa_cons (pv 7) pa_nil))) (nomark _)) (pw_and1 (pt_cmpR op_eq (pe_call (G__law_any T) (hr.mono (by decide)) (by rfl) T.m__law_any T.F__law_any.kp T.b__law_any .nil pass0 (by exact (pa_cons (pv 0) (pa_cons pe_int pa_nil)))) pe_int (nomark _))))) (pss_one (ps_asg pe_non (pg_sub (pv 7) (pe_op op_add (pv 6) pe_int) set_list))) pss_nil) (pss_cons (ps_if (pt_cmpR (op_neDK (K := K) hr.units) (by exact (pe_lamcall (T := [(tM, qM)]) (TT := TTr T.c_InvalidQuestion T.c_Refused) (Ng := ["_law_work", "error"]) (a := "_law_work") (k := 9) (by rfl) T.m__law_refused T.F__law_refused.kp lkR hcR bR sc__law_refused rfl (.inl rfl) (gives IR T.E_InvalidQuestion.gC T.E_Refused.gC gN) B rfl (.head _) (fun p hp _ => by rw [List.mem_singleton.mp hp]; rfl) (hr.mono (by decide)) (show LamS (defScope s__law_refusals_right) _ from lamS_by (by decide +kernel)) rfl (fun _ _ _ _ _ => rfl) (fun A' outer' s' H' E' f' c' hr' => (pe_call (G_cover T) (hr'.mono (by decide)) (by rfl) T.m_cover T.F_cover.kp T.b_cover .nil (passes_call (takes_of rfl rfl rfl rfl) fun _ _ _ _ z => z) (by exact (pa_cons (pv 1) (pa_cons (pv 3) (pa_cons (pv 7) pa_nil)))))))) (pe_tup (pa_cons pe_str (pa_cons (pv 6) pa_nil))) (nomark _)) (pss_one (ps_ret pe_bl)) pss_nil) (pss_cons (ps_set (i := 8) sc__law_refusals_right.nd rfl (.inr rfl) (pe_op op_cat (pe_op op_cat (pe_slice (sl_listK (K := K)) (pv 5) po_none (po_some (pv 6))) (pe_lst (pa_cons (pe_call (G__law_of T) (hr.mono (by decide)) (by rfl) T.m__law_of T.F__law_of.kp T.b__law_of .nil pass0 (by exact (pa_cons (pv 0) (pa_cons (pe_lst (pa_cons pe_non (pa_cons pe_str (pa_cons pe_bl (pa_cons (pe_tup (pa_cons pe_int pa_nil)) (pa_cons (pe_lst (pa_cons pe_int pa_nil)) pa_nil)))))) pa_nil)))) pa_nil))) (pe_slice (sl_listK (K := K)) (pv 5) (po_some (pe_op op_add (pv 6) pe_int)) po_none))) (pss_one (ps_ret (pe_cmpR (op_eqDK (K := K) hr.units) (by exact (pe_lamcall (T := [(tM, qM)]) (TT := TTr T.c_InvalidQuestion T.c_Refused) (Ng := ["_law_work", "error"]) (a := "_law_work") (k := 9) (by rfl) T.m__law_refused T.F__law_refused.kp lkR hcR bR sc__law_refused rfl (.inl rfl) (gives IR T.E_InvalidQuestion.gC T.E_Refused.gC gN) B rfl (.head _) (fun p hp _ => by rw [List.mem_singleton.mp hp]; rfl) (hr.mono (by decide)) (show LamS (defScope s__law_refusals_right) _ from lamS_by (by decide +kernel)) rfl (fun _ _ _ _ _ => rfl) (fun A' outer' s' H' E' f' c' hr' => (pe_call (G_shifted T) (hr'.mono (by decide)) (by rfl) T.m_shifted T.F_shifted.kp T.b_shifted .nil (passes_call (takes_of rfl rfl rfl rfl) fun _ _ _ _ z => z) (by exact (pa_cons (pv 1) (pa_cons (pv 3) (pa_cons (pe_tupleK (K := K) (by rfl) T.n_tuple (pv 8)) pa_nil)))))))) (pe_tup (pa_cons pe_str (pa_cons (pv 6) pa_nil))) (nomark _))))))))))))), ?_⟩
  · obtain ⟨p, q, n, pl, pt, ps, k, ms, L, ls, xs, ts, ss, rfl, _⟩ := h
    rfl
  · obtain ⟨p, q, n, pl, pt, ps, k, ms, L, ls, xs, ts, ss, rfl, W, k1, k12, hN, ov, lL, plp, plq, hpl, pL, ptp, ptq, hpt, pT, lt, tt, psp, psq, hps, lss, hQ⟩ := h
    walk_at "rd"
    intro a1 H1 n1 S1 e1
    walk_at "rd"
    intro b1 H2 n2 S2 e2
    have W1 := W.same S1
    have W2 := W1.same S2
    walk_at "rd"
    refine ⟨p, q, b1, _, rfl, W2.d, (W1.d.nes n2).1, (W1.d.nes n2).2, e2, by show 0 < 7; decide, by show 7 < 1000; decide, fun H3 x hx d3 f3 => ?_⟩
    have W3 := W2.fix d3 f3
    have wr : Wr K H3 x := by
      have a3 := (Kp.fix W2.d f3).tup (S2 _ _ e1)
      simp only [List.mem_cons, List.not_mem_nil, or_false] at hx
      rcases hx with h | h | h | h | h | h | h <;> subst h
      · exact .inl ⟨some 0, by decide, fun _ => .int _⟩
      · exact .inl ⟨some (0 - 1), by decide, fun _ => .int _⟩
      · exact .inl ⟨none, rfl, fun _ => kin_bl _⟩
      · exact .inl ⟨none, rfl, fun _ => kin_non⟩
      · exact .inl ⟨none, rfl, fun _ => kin_str _⟩
      · exact .inr ⟨a1, rfl, a3⟩
      · exact .inl ⟨some 1001, by decide, fun _ => .int _⟩
    clear hx e2 n2 n1 e1 W1 W2 d3 f3 S1 S2
    have hpt3 := W3.k.ls _ _ ptp ptq hpt
    have pT3 := turnks_kp pT W3.k
    walk_at "rd"
    refine rd_dnew fun a2 H4 n4 S4 e4 => ?_
    walk_at "rd"
    intro a3 H5 n5 S5 e5
    have S45 := S4.trans S5
    refine rd_neEmp (S45 _ _ hpt3) (paired_mono (turnk_at pT3) fun _ _ z => sqx_same z S45) e5 ?_
    by_cases x0 : xs = []
    · have L0 : L = [] := by
        have := paired_len pT
        rw [x0] at this
        exact List.length_eq_zero_iff.mp (by rw [← lt, ← this]; rfl)
      refine rd_iF' (by simp [x0]) ?_
      walk_at "rd"
      intro a6 H6 n6 S6 e6
      have S46 := S45.trans S6
      refine rd_cat (S46 _ _ hpt3) e6 (by rw [x0]; decide) fun a7 H7 n7 S7 e7 => ?_
      have S47 := S46.trans S7
      walk_at "rd"
      intro a8 H8 n8 S8 e8
      have S48 := S47.trans S8
      refine rd_neEmp (S48 _ _ hpt3) (paired_mono (turnk_at pT3) fun _ _ z => sqx_same z S48) e8 ?_
      refine rd_iF' (by simp [x0]) ?_
      walk_at "rd"
      intro a9 H9 n9 S9 e9
      walk_at "rd"
      intro b9 H10 n10 S10 e10
      have S410 := (S48.trans S9).trans S10
      have W10 := W3.same S410
      have m9 := (W3.same S48).d.nes n9
      refine ⟨p, q, b9, _, rfl, W10.d, ((W3.same (S48.trans S9)).d.nes n10).1, ((W3.same (S48.trans S9)).d.nes n10).2, e10, by show 0 < 6; decide, by show 6 < 1000; decide, fun Hz z hz dz fz => ?_⟩
      have Wz := W10.fix dz fz
      have kz := Kp.fix W10.d fz
      have m7 := (W3.same S46).d.nes n7
      have thz : Th K p q Hz L.length z := by
        refine Th.kp ?_ kz
        simp only [List.mem_cons, List.not_mem_nil, or_false] at hz
        rcases hz with h | h | h | h | h | h <;> subst h
        · exact .any fun _ => sq_non
        · exact .any fun _ => sq_int 5
        · exact .dic ((((((S5.trans S6).trans S7).trans S8).trans S9).trans S10) _ _ e4)
        · exact .lst m7.1 m7.2 (((S8.trans S9).trans S10) _ _ e7) (by rw [x0, L0]; decide)
        · exact .lst m9.1 m9.2 (S10 _ _ e9) (by rw [L0]; decide)
        · exact .any fun _ => sq_str _
      have wrz : Wr K Hz x := (wr.kp (Kp.same (p := p) (q := q) S410)).kp kz
      clear hz e10 e9 e8 e7 e6 e5 e4 n10 n9 n8 n7 n6 n5 n4 S4 S5 S6 S7 S8 S9 S10 S45 S46 S47 S48 m7 m9
      walk_at "rr_loop"
      obtain ⟨⟨o10, rfl⟩, Wa, ka⟩ := pv
      walk_at "rd"
      intro g Hg ng Sg eg
      have Wg := Wa.same Sg
      refine ⟨_, _, .lst (SqL.of (Wg.k.ls _ _ plp plq hpl)) (dp_pairs (Wg.k.pairs pL)), .lst (ds := []) (SqL.of eg) .nil, dP_shL L, by decide, ?_⟩
      walk_at "rd"
      have hL : PyData.eqv (.list (L.map dP)) (.list []) = true := by rw [L0]; rfl
      refine iteT' hL ?_
      walk_at "rd"
      exact hQ Hg Wg
    · refine rd_iT' (by simp [x0]) ?_
      walk_at "rd"
      obtain ⟨y0, hy0⟩ : ∃ y0, xs[0]? = some y0 := ⟨_, List.getElem?_eq_getElem (List.length_pos_iff.mpr x0)⟩
      have Lp : 0 < L.length := by have := paired_len pT; have := List.length_pos_iff.mpr x0; omega
      have lx := paired_len pT
      refine rd_ixL (S45 _ _ hpt3) (v := y0) (by exact atI_nat hy0) ?_
      walk_at "rd"
      intro a6 H6 n6 S6 e6
      have S46 := S45.trans S6
      refine rd_cat (S46 _ _ hpt3) e6 (by show _ + 1 ≤ _; omega) fun a7 H7 n7 S7 e7 => ?_
      have S47 := S46.trans S7
      walk_at "rd"
      intro a8 H8 n8 S8 e8
      have S48 := S47.trans S8
      refine rd_neEmp (S48 _ _ hpt3) (paired_mono (turnk_at pT3) fun _ _ z => sqx_same z S48) e8 ?_
      refine rd_iT' (by simp [x0]) ?_
      walk_at "rd"
      refine rd_slL (S48 _ _ hpt3) fun a9 H9 n9 S9 e9 => ?_
      have cd : cutV xs (some 1) none = xs.drop 1 := cut_drop _ (by decide) (by omega)
      rw [cd] at e9
      walk_at "rd"
      intro b9 H10 n10 S10 e10
      walk_at "rd"
      have S410 := (S48.trans S9).trans S10
      have W10 := W3.same S410
      have m9 := (W3.same S48).d.nes n9
      refine ⟨p, q, b9, _, rfl, W10.d, ((W3.same (S48.trans S9)).d.nes n10).1, ((W3.same (S48.trans S9)).d.nes n10).2, e10, by show 0 < 6; decide, by show 6 < 1000; decide, fun Hz z hz dz fz => ?_⟩
      have Wz := W10.fix dz fz
      have kz := Kp.fix W10.d fz
      have m7 := (W3.same S46).d.nes n7
      have thz : Th K p q Hz L.length z := by
        refine Th.kp ?_ kz
        simp only [List.mem_cons, List.not_mem_nil, or_false] at hz
        rcases hz with h | h | h | h | h | h <;> subst h
        · exact .any fun _ => sq_non
        · exact .any fun _ => sq_int 5
        · exact .dic ((((((S5.trans S6).trans S7).trans S8).trans S9).trans S10) _ _ e4)
        · exact .lst m7.1 m7.2 (((S8.trans S9).trans S10) _ _ e7) (by rw [List.length_append]; show _ + 1 ≠ _; omega)
        · exact .lst m9.1 m9.2 (S10 _ _ e9) (by rw [List.length_drop]; omega)
        · exact .any fun _ => sq_str _
      have wrz : Wr K Hz x := (wr.kp (Kp.same (p := p) (q := q) S410)).kp kz
      clear hz e10 e9 e8 e7 e6 e5 e4 n10 n9 n8 n7 n6 n5 n4 S4 S5 S6 S7 S8 S9 S10 S45 S46 S47 S48 m7 m9 W10
      walk_at "rr_loop"
      obtain ⟨⟨o10, rfl⟩, Wa, ka⟩ := pv
      walk_at "rd"
      intro g Hg ng Sg eg
      have Wg := Wa.same Sg
      refine ⟨_, _, .lst (SqL.of (Wg.k.ls _ _ plp plq hpl)) (dp_pairs (Wg.k.pairs pL)), .lst (ds := []) (SqL.of eg) .nil, dP_shL L, by decide, ?_⟩
      walk_at "rd"
      refine iteF' (by cases L with
        | nil => exact absurd Lp (by decide)
        | cons e L => rfl) ?_
      walk_at "rd"
      have Wgk := Wg.k
      obtain ⟨_, hlen⟩ : True ∧ ls.length = L.length := ⟨trivial, paired_len pL⟩
      refine rd_len (Wgk.ls _ _ plp plq hpl) ?_
      rw [List.length_map, hlen]
      walk_at "rd"
      refine ⟨p, q, _, rfl, Wg.d, by omega, by omega, fun H1 at_ d1 f1 i0 i1 => ?_⟩
      obtain ⟨j, rfl⟩ := Int.eq_ofNat_of_zero_le i0
      have hj : j < L.length := by omega
      have W1 := Wg.fix d1 f1
      walk_at "rd"
      refine rd_slL (W1.k.ls _ _ ptp ptq hpt) fun c1 H2 m1 S1 f1' => ?_
      rw [cut_take _ i0 (by omega)] at f1'
      have W2 := W1.same S1
      have c1n := W1.d.nes m1
      walk_at "rd"
      refine ⟨p, q, k, rfl, W2.d, k1, k12, fun H3 y d3 f3 by_ => ?_⟩
      have W3 := W2.fix d3 f3
      have e1 := f3 _ _ c1n.1 c1n.2 f1'
      walk_at "rd"
      intro c2 H4 m2 S4 e2
      refine rd_cat (S4 _ _ e1) e2 (by rw [List.length_take]; show _ + 1 ≤ _; omega) fun c3 H5 m3 S5 e3 => ?_
      have W5 := (W3.same S4).same S5
      walk_at "rd"
      refine rd_slL (W5.k.ls _ _ ptp ptq hpt) fun c4 H6 m4 S6 e4 => ?_
      rw [cut_drop _ (by omega) (by omega)] at e4
      refine rd_cat (S6 _ _ e3) e4 (by rw [List.length_append, List.length_take, List.length_drop]; show _ + 1 + _ ≤ _; omega) fun c5 H7 m5 S7 e5 => ?_
      have W6 := W5.same S6
      have c5n := W6.d.nes m5
      have W7 := W6.same S7
      have tn : (((j : Nat) : Int) + 1).toNat = j + 1 := by omega
      have tn0 : ((j : Nat) : Int).toNat = j := by omega
      rw [tn, tn0] at e5
      have by7 := by_.kp (Kp.same (p := p) (q := q) ((S4.trans S5).trans (S6.trans S7)))
      walk_at "rd"
      refine rd_len e5 ?_
      have lb : (xs.take j ++ [y] ++ xs.drop (j + 1)).length = L.length := by rw [List.length_append, List.length_append, List.length_take, List.length_drop]; show _ + 1 + _ = _; omega
      rw [lb]
      walk_at "rd"
      by_cases c : j + 1 < L.length
      · refine iteT' (decide_eq_true (by omega)) ?_
        walk_at "rd"
        refine ⟨p, q, 2, rfl, W7.d, by decide, by decide, fun H8 c' d8 f8 c0 c1' => ?_⟩
        have W8' := W7.fix d8 f8
        have hb' := f8 _ _ c5n.1 c5n.2 e5
        have byt' := by7.kp (Kp.fix W7.d f8)
        walk_at "rd"
        by_cases e : c' = 0
        · refine iteT' (by simp [e]) ?_
          walk_at "rd"
          have d2 : c5 ≠ p ∧ c5 ≠ q := c5n
          refine ⟨c5, _, _, j + 1, rfl, rfl, hb', ix_nat (by rw [lb]; omega), ?_⟩
          have W8 : Wd tM p q H (upd H8 c5 (.lst ((xs.take j ++ [y] ++ xs.drop (j + 1)).set (j + 1) .non))) := by
            exact ⟨d8.off c5n.1 c5n.2, tabs_upd W8'.t hb', Kp.put W6.k m5 W8'.k⟩
          have hb : upd H8 c5 (.lst ((xs.take j ++ [y] ++ xs.drop (j + 1)).set (j + 1) .non)) c5 = some (.lst (xs.take j ++ [y] ++ (.non :: xs.drop (j + 2)))) := by
            have la : (xs.take j ++ [y]).length = j + 1 := by rw [List.length_append, List.length_take]; show _ + 1 = _; omega
            rw [upd_same, List.set_append_right _ _ (by omega), la, Nat.sub_self, List.drop_eq_getElem_cons (by omega : j + 1 < xs.length)]
            rfl
          have byt : BadT K p q (upd H8 c5 (.lst ((xs.take j ++ [y] ++ xs.drop (j + 1)).set (j + 1) .non))) k y := by
            exact (by_.kp (Kp.same ((S4.trans S5).trans S6))).kp (Kp.put Kp.refl m5 ((Kp.same S7).trans (Kp.fix W7.d f8)))
          generalize upd H8 c5 (.lst ((xs.take j ++ [y] ++ xs.drop (j + 1)).set (j + 1) .non)) = H8' at W8 hb byt ⊢
          obtain ⟨rest, erest⟩ : ∃ rest, rest = V.non :: xs.drop (j + 2) := ⟨_, rfl⟩
          have lrest : rest.length + (j + 1) = L.length := by rw [erest, List.length_cons, List.length_drop]; omega
          rw [← erest] at hb
          have hrest : ∀ H', Kp p q H8' H' → ∃ cs', Paired (TurnX K H' k) rest cs' := fun H' kk => ⟨_, by rw [erest]; exact .cons (.seq sq_non) (paired_dp (turnks_x k12 (turnks_kp pT (W8.k.trans kk)) tt) (j + 2))⟩
          walk_at "rd"
          refine rd_lam W8.t fun H9 eN T9 => rd_ttr ?_
          have W9 := W8.extN eN T9
          have k9 := Kp.extN (p := p) (q := q) eN
          have hb9 := k9.ls _ _ c5n.1 c5n.2 hb
          obtain ⟨cs', pr'⟩ := hrest H9 k9
          have pT9 := turnks_x k12 (turnks_kp pT W9.k) tt
          have lcs : ((List.replicate xs.length true).take j).length = j := by rw [List.length_take, List.length_replicate]; omega
          walk_at "rd"
          refine cov_3 (xs := xs.take j ++ [y] ++ rest) (cs := (List.replicate xs.length true).take j ++ [false] ++ cs') k1 (by omega) (W9.k.net hN) (.lst hb9) (by rw [List.length_append, List.length_append, List.length_take]; show _ + 1 + _ = _; omega)
            (paired_append (paired_append (paired_tk pT9 j) (.cons ((byt.kp k9).turn k1 (by omega)) .nil)) pr') (bad_at (fun b hb => List.eq_of_mem_replicate (List.mem_of_mem_take hb)) lcs) (told_r fun H10 r10 S10 e10 => ?_)
          have W10 := W9.same S10
          walk_at "rd"
          intro r11 H11 n11 S11 e11
          have W11 := W10.same S11
          refine rd_neWord (S11 _ _ e10) e11 ?_
          walk_at "rd"
          try with_reducible refine iteF' rfl ?_
          walk_at "rd"
          refine rd_slL (W11.k.ls _ _ psp psq hps) fun d1 H12 n12 S12 e12 => ?_
          rw [cut_take _ i0 (by rw [List.length_map]; omega), tn0] at e12
          have d1n := W11.d.nes n12
          have W12 := W11.same S12
          walk_at "rd"
          intro d2 H13 n13 S13 e13
          have W13 := W12.same S13
          walk_at "rd"
          intro d3 H14 n14 S14 e14
          have d3n := W13.d.nes n14
          have W14 := W13.same S14
          walk_at "rd"
          intro d4 H15 n15 S15 e15
          have d4n := W14.d.nes n15
          have W15 := W14.same S15
          walk_at "rd"
          refine ⟨p, q, d4, _, rfl, W15.d, d4n.1, d4n.2, e15, by show 0 < 5; decide, by show 5 < 1000; decide, fun H16 u hu dd ff => ?_⟩
          have W16 := W15.fix dd ff
          have k16 := Kp.fix W15.d ff
          have od : Od K p q H16 u := by
            simp only [List.mem_cons, List.not_mem_nil, or_false] at hu
            rcases hu with h | h | h | h | h <;> subst h
            · exact .inl fun _ => kin_non
            · exact .inl fun _ => kin_str _
            · exact .inl fun _ => kin_bl _
            · exact .inr (.inl ⟨d2, rfl, k16.tup ((S14.trans S15) _ _ e13)⟩)
            · exact .inr (.inr ⟨d3, rfl, d3n.1, d3n.2, k16.ls _ _ d3n.1 d3n.2 (S15 _ _ e14)⟩)
          have e12' := k16.ls _ _ d1n.1 d1n.2 ((S13.trans (S14.trans S15)) _ _ e12)
          walk_at "rd"
          intro d5 H17 n17 S17 e17
          refine rd_cat (S17 _ _ e12') e17 (by rw [List.length_take, List.length_map]; show _ + 1 ≤ _; omega) fun d6 H18 n18 S18 e18 => ?_
          have W18 := (W16.same S17).same S18
          walk_at "rd"
          refine rd_slL (W18.k.ls _ _ psp psq hps) fun d7 H19 n19 S19 e19 => ?_
          rw [cut_drop _ (by omega) (by rw [List.length_map]; omega), tn] at e19
          refine rd_cat (S19 _ _ e18) e19 (by rw [List.length_append, List.length_take, List.length_drop, List.length_map]; show _ + 1 + _ ≤ _; omega) fun d8 H20 n20 S20 e20 => ?_
          have d8n := (W18.same S19).d.nes n20
          have W20 := (W18.same S19).same S20
          have od20 := od.kp (Kp.same (p := p) (q := q) ((S17.trans S18).trans (S19.trans S20)))
          walk_at "rd"
          refine rd_lam W20.t fun H21 eN T21 => rd_ttr ?_
          have W21 := W20.extN eN T21
          have k21 := Kp.extN (p := p) (q := q) eN
          have e21 := k21.ls _ _ d8n.1 d8n.2 e20
          walk_at "rd"
          refine rd_tupL e21 fun t1 H22 n22 S22 e22 => ?_
          have W22 := W21.same S22
          walk_at "rd"
          have kq := paired_append (paired_append (paired_tk (kins_ints (K := K) (H := H22) ss) j) (.cons ((od20.kp k21).kp (Kp.same S22)).kin .nil)) (paired_dp (kins_ints (K := K) (H := H22) ss) (j + 1))
          have lss' : (((ss.map some).take j).map intB).length = j := by rw [List.length_map, List.length_take, List.length_map]; omega
          refine shi_3 k1 (by omega) (W22.k.net hN) (.tup (Tup.of e22)) (by rw [List.length_append, List.length_append, List.length_take, List.length_drop, List.length_map]; show _ + 1 + _ = _; omega) kq
            (by rw [List.map_append, List.map_append]; exact bad_at (fun b hb => by obtain ⟨o, ho, rfl⟩ := List.mem_map.mp hb; obtain ⟨i, _, rfl⟩ := List.mem_map.mp (List.mem_of_mem_take ho); rfl) lss') (told_r fun H23 r23 S23 e23 => ?_)
          have W23 := W22.same S23
          walk_at "rd"
          intro r24 H24 n24 S24 e24
          refine rd_eqWord (S24 _ _ e23) e24 ?_
          walk_at "rd"
          exact hQ H24 (W23.same S24)
        · refine iteF' (by simp [e]) ?_
          have W8 := W8'
          have hb := hb'
          have byt := byt'
          obtain ⟨rest, erest⟩ : ∃ rest, rest = xs.drop (j + 1) := ⟨_, rfl⟩
          have lrest : rest.length + (j + 1) = L.length := by rw [erest, List.length_drop]; omega
          rw [← erest] at hb
          have hrest : ∀ H', Kp p q H8 H' → ∃ cs', Paired (TurnX K H' k) rest cs' := fun H' kk => ⟨_, by rw [erest]; exact paired_dp (turnks_x k12 (turnks_kp pT (W8.k.trans kk)) tt) (j + 1)⟩
          walk_at "rd"
          refine rd_lam W8.t fun H9 eN T9 => rd_ttr ?_
          have W9 := W8.extN eN T9
          have k9 := Kp.extN (p := p) (q := q) eN
          have hb9 := k9.ls _ _ c5n.1 c5n.2 hb
          obtain ⟨cs', pr'⟩ := hrest H9 k9
          have pT9 := turnks_x k12 (turnks_kp pT W9.k) tt
          have lcs : ((List.replicate xs.length true).take j).length = j := by rw [List.length_take, List.length_replicate]; omega
          walk_at "rd"
          refine cov_3 (xs := xs.take j ++ [y] ++ rest) (cs := (List.replicate xs.length true).take j ++ [false] ++ cs') k1 (by omega) (W9.k.net hN) (.lst hb9) (by rw [List.length_append, List.length_append, List.length_take]; show _ + 1 + _ = _; omega)
            (paired_append (paired_append (paired_tk pT9 j) (.cons ((byt.kp k9).turn k1 (by omega)) .nil)) pr') (bad_at (fun b hb => List.eq_of_mem_replicate (List.mem_of_mem_take hb)) lcs) (told_r fun H10 r10 S10 e10 => ?_)
          have W10 := W9.same S10
          walk_at "rd"
          intro r11 H11 n11 S11 e11
          have W11 := W10.same S11
          refine rd_neWord (S11 _ _ e10) e11 ?_
          walk_at "rd"
          try with_reducible refine iteF' rfl ?_
          walk_at "rd"
          refine rd_slL (W11.k.ls _ _ psp psq hps) fun d1 H12 n12 S12 e12 => ?_
          rw [cut_take _ i0 (by rw [List.length_map]; omega), tn0] at e12
          have d1n := W11.d.nes n12
          have W12 := W11.same S12
          walk_at "rd"
          intro d2 H13 n13 S13 e13
          have W13 := W12.same S13
          walk_at "rd"
          intro d3 H14 n14 S14 e14
          have d3n := W13.d.nes n14
          have W14 := W13.same S14
          walk_at "rd"
          intro d4 H15 n15 S15 e15
          have d4n := W14.d.nes n15
          have W15 := W14.same S15
          walk_at "rd"
          refine ⟨p, q, d4, _, rfl, W15.d, d4n.1, d4n.2, e15, by show 0 < 5; decide, by show 5 < 1000; decide, fun H16 u hu dd ff => ?_⟩
          have W16 := W15.fix dd ff
          have k16 := Kp.fix W15.d ff
          have od : Od K p q H16 u := by
            simp only [List.mem_cons, List.not_mem_nil, or_false] at hu
            rcases hu with h | h | h | h | h <;> subst h
            · exact .inl fun _ => kin_non
            · exact .inl fun _ => kin_str _
            · exact .inl fun _ => kin_bl _
            · exact .inr (.inl ⟨d2, rfl, k16.tup ((S14.trans S15) _ _ e13)⟩)
            · exact .inr (.inr ⟨d3, rfl, d3n.1, d3n.2, k16.ls _ _ d3n.1 d3n.2 (S15 _ _ e14)⟩)
          have e12' := k16.ls _ _ d1n.1 d1n.2 ((S13.trans (S14.trans S15)) _ _ e12)
          walk_at "rd"
          intro d5 H17 n17 S17 e17
          refine rd_cat (S17 _ _ e12') e17 (by rw [List.length_take, List.length_map]; show _ + 1 ≤ _; omega) fun d6 H18 n18 S18 e18 => ?_
          have W18 := (W16.same S17).same S18
          walk_at "rd"
          refine rd_slL (W18.k.ls _ _ psp psq hps) fun d7 H19 n19 S19 e19 => ?_
          rw [cut_drop _ (by omega) (by rw [List.length_map]; omega), tn] at e19
          refine rd_cat (S19 _ _ e18) e19 (by rw [List.length_append, List.length_take, List.length_drop, List.length_map]; show _ + 1 + _ ≤ _; omega) fun d8 H20 n20 S20 e20 => ?_
          have d8n := (W18.same S19).d.nes n20
          have W20 := (W18.same S19).same S20
          have od20 := od.kp (Kp.same (p := p) (q := q) ((S17.trans S18).trans (S19.trans S20)))
          walk_at "rd"
          refine rd_lam W20.t fun H21 eN T21 => rd_ttr ?_
          have W21 := W20.extN eN T21
          have k21 := Kp.extN (p := p) (q := q) eN
          have e21 := k21.ls _ _ d8n.1 d8n.2 e20
          walk_at "rd"
          refine rd_tupL e21 fun t1 H22 n22 S22 e22 => ?_
          have W22 := W21.same S22
          walk_at "rd"
          have kq := paired_append (paired_append (paired_tk (kins_ints (K := K) (H := H22) ss) j) (.cons ((od20.kp k21).kp (Kp.same S22)).kin .nil)) (paired_dp (kins_ints (K := K) (H := H22) ss) (j + 1))
          have lss' : (((ss.map some).take j).map intB).length = j := by rw [List.length_map, List.length_take, List.length_map]; omega
          refine shi_3 k1 (by omega) (W22.k.net hN) (.tup (Tup.of e22)) (by rw [List.length_append, List.length_append, List.length_take, List.length_drop, List.length_map]; show _ + 1 + _ = _; omega) kq
            (by rw [List.map_append, List.map_append]; exact bad_at (fun b hb => by obtain ⟨o, ho, rfl⟩ := List.mem_map.mp hb; obtain ⟨i, _, rfl⟩ := List.mem_map.mp (List.mem_of_mem_take ho); rfl) lss') (told_r fun H23 r23 S23 e23 => ?_)
          have W23 := W22.same S23
          walk_at "rd"
          intro r24 H24 n24 S24 e24
          refine rd_eqWord (S24 _ _ e23) e24 ?_
          walk_at "rd"
          exact hQ H24 (W23.same S24)
      · refine iteF' (decide_eq_false (by omega)) ?_
        walk_at "rd"
        have W8 := W7
        have hb := e5
        have byt := by7
        obtain ⟨rest, erest⟩ : ∃ rest, rest = xs.drop (j + 1) := ⟨_, rfl⟩
        have lrest : rest.length + (j + 1) = L.length := by rw [erest, List.length_drop]; omega
        rw [← erest] at hb
        have hrest : ∀ H', Kp p q H7 H' → ∃ cs', Paired (TurnX K H' k) rest cs' := fun H' kk => ⟨_, by rw [erest]; exact paired_dp (turnks_x k12 (turnks_kp pT (W8.k.trans kk)) tt) (j + 1)⟩
        walk_at "rd"
        refine rd_lam W8.t fun H9 eN T9 => rd_ttr ?_
        have W9 := W8.extN eN T9
        have k9 := Kp.extN (p := p) (q := q) eN
        have hb9 := k9.ls _ _ c5n.1 c5n.2 hb
        obtain ⟨cs', pr'⟩ := hrest H9 k9
        have pT9 := turnks_x k12 (turnks_kp pT W9.k) tt
        have lcs : ((List.replicate xs.length true).take j).length = j := by rw [List.length_take, List.length_replicate]; omega
        walk_at "rd"
        refine cov_3 (xs := xs.take j ++ [y] ++ rest) (cs := (List.replicate xs.length true).take j ++ [false] ++ cs') k1 (by omega) (W9.k.net hN) (.lst hb9) (by rw [List.length_append, List.length_append, List.length_take]; show _ + 1 + _ = _; omega)
          (paired_append (paired_append (paired_tk pT9 j) (.cons ((byt.kp k9).turn k1 (by omega)) .nil)) pr') (bad_at (fun b hb => List.eq_of_mem_replicate (List.mem_of_mem_take hb)) lcs) (told_r fun H10 r10 S10 e10 => ?_)
        have W10 := W9.same S10
        walk_at "rd"
        intro r11 H11 n11 S11 e11
        have W11 := W10.same S11
        refine rd_neWord (S11 _ _ e10) e11 ?_
        walk_at "rd"
        try with_reducible refine iteF' rfl ?_
        walk_at "rd"
        refine rd_slL (W11.k.ls _ _ psp psq hps) fun d1 H12 n12 S12 e12 => ?_
        rw [cut_take _ i0 (by rw [List.length_map]; omega), tn0] at e12
        have d1n := W11.d.nes n12
        have W12 := W11.same S12
        walk_at "rd"
        intro d2 H13 n13 S13 e13
        have W13 := W12.same S13
        walk_at "rd"
        intro d3 H14 n14 S14 e14
        have d3n := W13.d.nes n14
        have W14 := W13.same S14
        walk_at "rd"
        intro d4 H15 n15 S15 e15
        have d4n := W14.d.nes n15
        have W15 := W14.same S15
        walk_at "rd"
        refine ⟨p, q, d4, _, rfl, W15.d, d4n.1, d4n.2, e15, by show 0 < 5; decide, by show 5 < 1000; decide, fun H16 u hu dd ff => ?_⟩
        have W16 := W15.fix dd ff
        have k16 := Kp.fix W15.d ff
        have od : Od K p q H16 u := by
          simp only [List.mem_cons, List.not_mem_nil, or_false] at hu
          rcases hu with h | h | h | h | h <;> subst h
          · exact .inl fun _ => kin_non
          · exact .inl fun _ => kin_str _
          · exact .inl fun _ => kin_bl _
          · exact .inr (.inl ⟨d2, rfl, k16.tup ((S14.trans S15) _ _ e13)⟩)
          · exact .inr (.inr ⟨d3, rfl, d3n.1, d3n.2, k16.ls _ _ d3n.1 d3n.2 (S15 _ _ e14)⟩)
        have e12' := k16.ls _ _ d1n.1 d1n.2 ((S13.trans (S14.trans S15)) _ _ e12)
        walk_at "rd"
        intro d5 H17 n17 S17 e17
        refine rd_cat (S17 _ _ e12') e17 (by rw [List.length_take, List.length_map]; show _ + 1 ≤ _; omega) fun d6 H18 n18 S18 e18 => ?_
        have W18 := (W16.same S17).same S18
        walk_at "rd"
        refine rd_slL (W18.k.ls _ _ psp psq hps) fun d7 H19 n19 S19 e19 => ?_
        rw [cut_drop _ (by omega) (by rw [List.length_map]; omega), tn] at e19
        refine rd_cat (S19 _ _ e18) e19 (by rw [List.length_append, List.length_take, List.length_drop, List.length_map]; show _ + 1 + _ ≤ _; omega) fun d8 H20 n20 S20 e20 => ?_
        have d8n := (W18.same S19).d.nes n20
        have W20 := (W18.same S19).same S20
        have od20 := od.kp (Kp.same (p := p) (q := q) ((S17.trans S18).trans (S19.trans S20)))
        walk_at "rd"
        refine rd_lam W20.t fun H21 eN T21 => rd_ttr ?_
        have W21 := W20.extN eN T21
        have k21 := Kp.extN (p := p) (q := q) eN
        have e21 := k21.ls _ _ d8n.1 d8n.2 e20
        walk_at "rd"
        refine rd_tupL e21 fun t1 H22 n22 S22 e22 => ?_
        have W22 := W21.same S22
        walk_at "rd"
        have kq := paired_append (paired_append (paired_tk (kins_ints (K := K) (H := H22) ss) j) (.cons ((od20.kp k21).kp (Kp.same S22)).kin .nil)) (paired_dp (kins_ints (K := K) (H := H22) ss) (j + 1))
        have lss' : (((ss.map some).take j).map intB).length = j := by rw [List.length_map, List.length_take, List.length_map]; omega
        refine shi_3 k1 (by omega) (W22.k.net hN) (.tup (Tup.of e22)) (by rw [List.length_append, List.length_append, List.length_take, List.length_drop, List.length_map]; show _ + 1 + _ = _; omega) kq
          (by rw [List.map_append, List.map_append]; exact bad_at (fun b hb => by obtain ⟨o, ho, rfl⟩ := List.mem_map.mp hb; obtain ⟨i, _, rfl⟩ := List.mem_map.mp (List.mem_of_mem_take ho); rfl) lss') (told_r fun H23 r23 S23 e23 => ?_)
        have W23 := W22.same S23
        walk_at "rd"
        intro r24 H24 n24 S24 e24
        refine rd_eqWord (S24 _ _ e23) e24 ?_
        walk_at "rd"
        exact hQ H24 (W23.same S24)
end
end K71

namespace K71
open PySem PySem.Spec PyProof.Rows L2 KX LamX RZ
local macro_rules | `(tactic| walk_at "rd1") => `(tactic| first
  | with_reducible refine rd_seq ?_
  | with_reducible refine rd_for ?_
  | with_reducible refine rd_lc ?_
  | with_reducible refine rd_asg ?_
  | ((with_reducible refine' rd_var ?rdv ?_); (case rdv => exact rfl))
  | with_reducible refine rd_c ?_
  | with_reducible refine rd_op ?_
  | with_reducible refine rd_un ?_
  | with_reducible refine rd_cons ?_
  | with_reducible refine rd_nil ?_
  | with_reducible refine rd_call ?_
  | with_reducible refine rd_cb ?_
  | with_reducible refine rd_tB ?_
  | with_reducible refine rd_test ?_
  | with_reducible refine rd_bl ?_
  | with_reducible refine rd_rI0 ?_
  | with_reducible refine rd_eqI ?_
  | with_reducible refine rd_neI ?_
  | with_reducible refine rd_rU ?_
  | with_reducible refine rd_name ?_
  | with_reducible refine rd_ifs ?_
  | with_reducible refine rd_and ?_
  | with_reducible refine rd_or ?_
  | with_reducible refine rd_not ?_
  | with_reducible refine rd_yes ?_
  | with_reducible refine rd_andV ?_
  | with_reducible refine rd_orV ?_
  | with_reducible refine rd_notV ?_
  | with_reducible refine rd_if ?_
  | with_reducible refine rd_isN ?_
  | with_reducible refine rd_iT ?_
  | with_reducible refine rd_iF ?_
  | with_reducible refine rd_ret ?_
  | with_reducible refine rd_retN ?_
  | with_reducible refine rd_drop ?_
  | with_reducible refine rd_next ?_
  | with_reducible refine rd_cont ?_
  | with_reducible refine rd_brk ?_
  | with_reducible refine rd_nx ?_
  | with_reducible refine rd_rt ?_
  | with_reducible refine rd_ct ?_
  | with_reducible refine rd_bk ?_
  | with_reducible refine rd_par ?_
  | with_reducible refine rd_par3 ?_
  | with_reducible refine rd_par2 ?_
  | with_reducible refine rd_par33 ?_
  | with_reducible refine rd_gcons ?_
  | with_reducible refine rd_gnil ?_
  | with_reducible refine rd_sub ?_
  | with_reducible refine rd_tup ?_
  | with_reducible refine rd_lst ?_
  | ((with_reducible refine rd_tupT ?hl ?_); (case hl => exact Nat.le_of_ble_eq_true rfl))
  | ((with_reducible refine rd_lstT ?hl ?_); (case hl => exact Nat.le_of_ble_eq_true rfl))
  | with_reducible refine rd_bm ?_
  | with_reducible refine rd_bm0 ?_
  | with_reducible refine rd_sl ?_
  | with_reducible refine rd_noP ?_
  | with_reducible refine rd_part ?_
  | with_reducible refine rd_int ?_
  | with_reducible refine rd_int1 ?_
  | with_reducible refine rd_fld ?_
  | with_reducible refine rd_then ?_
  | with_reducible refine rd_raise ?_
  | with_reducible refine rd_one ?_
  | with_reducible refine rd_sfld ?_
  | with_reducible refine rd_ilist ?_
  | with_reducible refine rd_itup ?_
  | with_reducible refine rd_rng1 ?_
  | with_reducible refine rd_enum ?_
  | with_reducible refine rd_enumT ?_)
local macro_rules | `(tactic| walk_at "rd") => `(tactic| repeat (walk_at "rd1"))
theorem kb_cover {K : PySem.W.Frag} {mg : Str → Option Value} (T : TX K mg) : KBn K T.d_cover ["network", "copies", "turns"] 0 ["turns", "copies", "network"] (fun _ ws => match ws with | [v0, v1, v2] => [v2, v1, v0] | ws => ws) (fun _ ws => match ws with | [v0, v1, v2] => [v2, v1, v0] | ws => ws) := by
  obtain ⟨oc, od, kV, doc, pm, an, cdv, ct, osl, e, lk, hcd⟩ := T.F_cover.ex
  rw [e]
  refine ⟨fun s us ws _ h0 h2 => ?_, fun {vs us zs ws} _ r => ?_⟩
  · match us, ws, h0, h2 with
    | [], [v0, v1, v2], _, _ => exact .of_eq rfl
  · exact match r with
      | .nil => .nil
      | .cons a0 (.nil) => .cons a0 (.nil)
      | .cons a0 (.cons a1 (.nil)) => .cons a0 (.cons a1 (.nil))
      | .cons a0 (.cons a1 (.cons a2 (.nil))) => .cons a2 (.cons a1 (.cons a0 (.nil)))
      | .cons a0 (.cons a1 (.cons a2 (.cons a3 (r)))) => .cons a0 (.cons a1 (.cons a2 (.cons a3 (r))))
theorem kb_shifted {K : PySem.W.Frag} {mg : Str → Option Value} (T : TX K mg) : KBn K T.d_shifted ["network", "copies", "shifts"] 0 ["shifts", "copies", "network"] (fun _ ws => match ws with | [v0, v1, v2] => [v2, v1, v0] | ws => ws) (fun _ ws => match ws with | [v0, v1, v2] => [v2, v1, v0] | ws => ws) := by
  obtain ⟨oc, od, kV, doc, pm, an, cdv, ct, osl, e, lk, hcd⟩ := T.F_shifted.ex
  rw [e]
  refine ⟨fun s us ws _ h0 h2 => ?_, fun {vs us zs ws} _ r => ?_⟩
  · match us, ws, h0, h2 with
    | [], [v0, v1, v2], _, _ => exact .of_eq rfl
  · exact match r with
      | .nil => .nil
      | .cons a0 (.nil) => .cons a0 (.nil)
      | .cons a0 (.cons a1 (.nil)) => .cons a0 (.cons a1 (.nil))
      | .cons a0 (.cons a1 (.cons a2 (.nil))) => .cons a2 (.cons a1 (.cons a0 (.nil)))
      | .cons a0 (.cons a1 (.cons a2 (.cons a3 (r)))) => .cons a0 (.cons a1 (.cons a2 (.cons a3 (r))))
theorem pe_callD {X : Cx} {CX : CXT} {k : Nat} {f : Addr} {fd : FuncData} {ps : List Str} {sp : L2.Sp} {dvs : List V} {E : XK} {x : Str} {p pos : Pos} {e : Expr} {es : List Expr} {t : TA} (F : FnOk X.prog X.w X.K X.mg X.base CX k f fd ps sp) (hr : Room k X.A) (hg : Gl X x) (hm : X.mg x = some (.ref f)) (hk : PySem.W.keepIn X.K (.ref f) = true)
    (hB : ∃ ds, Vals dvs ds ∧ Binds X.K fd ps ds) (hx : Passes CX X E) (ha : PA X (e :: es) t) (hdb : (x == ("__debug__" : Str)) = false := by decide) (he : starEach (e :: es) X.env = (false, eval e X.env) :: starEach es X.env := by rfl) (hpl : (backTo pos (starEach es X.env)).any (·.1) = false := by rfl) :
    PE X (.Call (.Name x p) (e :: es) [] pos) (tCall sp dvs E t) := by
  obtain ⟨ds, h1, h2⟩ := hB
  exact pe_call F hr hg hm hk h2 h1 hx ha hdb he hpl
theorem tif_rest {b : Bool} {tA tB : TE} {σ : L2.St} {H : Hp} {Q : VK} (R : V → Hp → Prop) (hR : ∀ x H', R x H' → Q x H') (h1 : b = true → ∀ Q' : VK, (∀ x H', R x H' → Q' x H') → tA σ H Q') (h2 : b = false → ∀ Q' : VK, (∀ x H', R x H' → Q' x H') → tB σ H Q') : if b = true then tA σ H Q else tB σ H Q := by
  cases b with
  | true => rw [if_pos rfl]; exact h1 rfl Q hR
  | false => rw [if_neg Bool.false_ne_true]; exact h2 rfl Q hR
/-- a turn that lies elsewhere -/
def TurnD (K : PySem.W.Frag) (p q D : Addr) (H : Hp) (x : V) (t : List Int) : Prop := TurnK K p q H x t ∧ x ≠ .ref D
theorem TurnK.upd {K : PySem.W.Frag} {p q D : Addr} {H : Hp} {x : V} {t : List Int} {o : HO} (h : TurnK K p q H x t) (n : x ≠ .ref D) : TurnK K p q (upd H D o) x t := by
  obtain ⟨a, rfl, h1, h2, h⟩ := h
  have n' : a ≠ D := fun e => n (by rw [e])
  refine ⟨a, rfl, h1, h2, ?_⟩
  unfold TurnAt at h ⊢
  generalize e : some (t.map V.int) = o at h
  cases h with
  | lst h => cases e; exact .lst (by rw [upd_ne n']; exact h)
  | tup h =>
    cases e
    refine .tup ?_
    rcases h with h | ⟨u, h⟩
    · exact .inl (by rw [upd_ne n']; exact h)
    · exact .inr ⟨u, by rw [upd_ne n']; exact h⟩
  | oth _ _ _ => cases e
theorem Wd.put {tM p q D : Addr} {H0 H : Hp} {xs : List V} {o : HO} (b : Wd tM p q H0 H) (n : H0 D = none) (np : D ≠ p) (nq : D ≠ q) (h : H D = some (.lst xs)) : Wd tM p q H0 (upd H D o) := ⟨b.d.off np nq, tabs_upd b.t h, Kp.put Kp.refl n b.k⟩
theorem Wd.re {tM p q : Addr} {H0 H : Hp} (b : Wd tM p q H0 H) : Wd tM p q H H := ⟨b.d, b.t, Kp.refl⟩
/-! texts of small data, with greater numbers -/
structure Tx (d : PyData) (w k : Nat) : Prop where
  s : d.showable = true
  n : d.hasDict = false
  l : d.leavesShort 15 = true
  w : d.weight ≤ w
  h : d.depth ≤ k
structure TxA (ds : List PyData) (w k : Nat) : Prop where
  s : PyData.showableAll ds = true
  n : PyData.hasDictAll ds = false
  l : PyData.leavesShortAll 15 ds = true
  w : PyData.weightAll ds ≤ w * ds.length
  h : PyData.depthAll ds ≤ k
theorem Tx.rep {d : PyData} {w k : Nat} (h : Tx d w k) (hw : w ≤ 900000) (hk : k ≤ 64) : Rep d := by
  refine ⟨h.s, h.n, Nat.le_trans h.h hk, ?_⟩
  have q := PyData.shown_le 15 (by decide) d h.l
  have w' := h.w
  have z : sizeLine = 16777216 := by decide
  omega
theorem tx_int {i : Int} (h : i.natAbs < 2 ^ 40) : Tx (.int i) 41 0 := by
  have hl : i.natAbs.log2 < 40 := PySem.Flt.log2_lt_of (by decide) h
  refine ⟨decide_eq_true (by omega), rfl, ?_, ?_, Nat.le_refl _⟩
  · refine decide_eq_true ?_
    show (Str.ofString (toString i)).length ≤ 15
    first | rw [PySem.ofString_length] | rw [PyProof.Rows.ofString_length]
    exact int_text_length_le10 (k := 14) (by decide) (by omega)
  · show (if i == 0 then 0 else i.natAbs.log2 + 1) ≤ 41
    split <;> omega
theorem TxA.nil {w k : Nat} : TxA [] w k := ⟨rfl, rfl, rfl, Nat.zero_le _, Nat.zero_le _⟩
theorem TxA.cons {d : PyData} {ds : List PyData} {w k : Nat} (a : Tx d w k) (b : TxA ds (w + 1) k) : TxA (d :: ds) (w + 1) k := by
  refine ⟨?_, ?_, ?_, ?_, ?_⟩
  · show (d.showable && PyData.showableAll ds) = true
    rw [a.s, b.s]; rfl
  · show (d.hasDict || PyData.hasDictAll ds) = false
    rw [a.n, b.n]; rfl
  · show (d.leavesShort 15 && PyData.leavesShortAll 15 ds) = true
    rw [a.l, b.l]; rfl
  · show d.weight + 1 + PyData.weightAll ds ≤ (w + 1) * (ds.length + 1)
    have := a.w; have := b.w
    rw [Nat.mul_add]; omega
  · show max d.depth (PyData.depthAll ds) ≤ k
    have := a.h; have := b.h
    omega
theorem TxA.tuple {ds : List PyData} {w k : Nat} (a : TxA ds w k) : Tx (.tuple ds) (w * ds.length) (k + 1) :=
  ⟨a.s, a.n, a.l, a.w, Nat.add_le_add_right a.h 1⟩
theorem TxA.list {ds : List PyData} {w k : Nat} (a : TxA ds w k) : Tx (.list ds) (w * ds.length) (k + 1) :=
  ⟨a.s, a.n, a.l, a.w, Nat.add_le_add_right a.h 1⟩
theorem Tx.mono {d : PyData} {w k w' k' : Nat} (h : Tx d w k) (hw : w ≤ w') (hk : k ≤ k') : Tx d w' k' := ⟨h.s, h.n, h.l, Nat.le_trans h.w hw, Nat.le_trans h.h hk⟩
theorem tx_ints : ∀ {r : List Int}, (∀ x ∈ r, x.natAbs < 2 ^ 40) → TxA (r.map PyData.int) 42 0
  | [], _ => .nil
  | x :: r, h => .cons (tx_int (h x (by simp))) (tx_ints fun y hy => h y (by simp [hy]))
/-- a turn's data -/
inductive TurnE (K : PySem.W.Frag) (p q : Addr) (H : Hp) : V → PyData → Prop
  | lst {a : Addr} {t : List Int} (ap : a ≠ p) (aq : a ≠ q) (h : H a = some (.lst (t.map V.int))) : TurnE K p q H (.ref a) (.list (t.map PyData.int))
  | tup {a : Addr} {t : List Int} (h : Tup H a (t.map V.int)) : TurnE K p q H (.ref a) (.tuple (t.map PyData.int))
theorem TurnE.kp {K : PySem.W.Frag} {p q : Addr} {H H' : Hp} {x : V} {d : PyData} (h : TurnE K p q H x d) (k : Kp p q H H') : TurnE K p q H' x d := by
  cases h with
  | lst ap aq h => exact .lst ap aq (k.ls _ _ ap aq h)
  | tup h => exact .tup (k.tupR h)
theorem TurnE.dp {K : PySem.W.Frag} {p q : Addr} {H : Hp} {x : V} {d : PyData} (h : TurnE K p q H x d) : Dp K H x d := by
  cases h with
  | lst ap aq h => exact dp_ints h
  | tup h => exact .tup h.sq (dpAll_ints K H _)
theorem turnes_kp {K : PySem.W.Frag} {p q : Addr} {H H' : Hp} {xs : List V} {ds : List PyData} (h : Paired (TurnE K p q H) xs ds) (k : Kp p q H H') : Paired (TurnE K p q H') xs ds := paired_mono h fun _ _ z => z.kp k
theorem turnes_dp {K : PySem.W.Frag} {p q : Addr} {H : Hp} {xs : List V} {ds : List PyData} (h : Paired (TurnE K p q H) xs ds) : DpAll K H xs ds := by
  induction h with
  | nil => exact .nil
  | cons a _ ih => exact .cons a.dp ih
theorem turnes_of {K : PySem.W.Frag} {p q : Addr} {H : Hp} {k : Nat} (k12 : k ≤ 12) {xs : List V} {ts : List (List Int)} (h : Paired (TurnK K p q H) xs ts) (tt : ∀ t ∈ ts, IsTurn k t) : ∃ ds, Paired (TurnE K p q H) xs ds ∧ TxA ds 505 1 := by
  induction h with
  | nil => exact ⟨[], .nil, .nil⟩
  | @cons x t xs ts a _ ih =>
    obtain ⟨ds, h1, h2⟩ := ih fun t ht => tt t (by simp [ht])
    have it := tt t (by simp)
    have lt := it.len
    have tx := tx_ints (r := t) fun y hy => by
      have := it.pm.mem_iff.mp hy
      unfold rangeI at this
      obtain ⟨m, hm, rfl⟩ := List.mem_map.mp this
      have := List.mem_range.mp hm
      omega
    obtain ⟨a, rfl, ap, aq, h⟩ := a
    unfold TurnAt at h
    generalize e : some (t.map V.int) = o at h
    cases h with
    | lst h => cases e; exact ⟨_, .cons (.lst ap aq h) h1, .cons (tx.list.mono (by rw [List.length_map]; omega) (Nat.le_refl _)) h2⟩
    | tup h => cases e; exact ⟨_, .cons (.tup h) h1, .cons (tx.tuple.mono (by rw [List.length_map]; omega) (Nat.le_refl _)) h2⟩
    | oth _ _ _ => cases e
theorem rep_kept {ds : List PyData} {ss : List Int} (h : TxA ds 505 1) (l : ds.length ≤ 32) (hs : ∀ s ∈ ss, s.natAbs < 2 ^ 40) (ls : ss.length ≤ 32) : Rep (.tuple [.list ds, .list (ss.map PyData.int)]) := by
  have a := h.list
  have b := (tx_ints hs).list
  rw [List.length_map] at b
  have c := (TxA.cons (a.mono (w' := 20000) (k' := 2) (by omega) (by decide)) (TxA.cons (b.mono (w' := 20000) (k' := 2) (by omega) (by decide)) (TxA.nil (w := 20001) (k := 2)))).tuple
  exact c.rep (by show 20001 * 2 ≤ _; decide) (by decide)
theorem sh_net (ms : List Int) (L : List (Int × Int)) : SeqAt.shaped (dNet ms L) = true := by
  have h := dA_dep ms
  have h' := dP_dep L
  have h1 : PyData.depth (dNet ms L) = max (PyData.depthAll (ms.map PyData.int) + 1) (max (PyData.depthAll (L.map dP) + 1) 0) + 1 := rfl
  unfold SeqAt.shaped
  have h2 : PyData.canLay0 (dNet ms L) = (PyData.canLayAll0 (ms.map PyData.int) && (PyData.canLayAll0 (L.map dP) && true)) := rfl
  rw [h2, dA_lay, dP_lay, h1]
  exact decide_eq_true (by omega)
theorem eqv_net (ms : List Int) (L : List (Int × Int)) : PyData.eqv (dNet ms L) (dNet ms L) = true := by
  show (PyData.eqvAll (ms.map PyData.int) (ms.map PyData.int) && (PyData.eqvAll (L.map dP) (L.map dP) && true)) = true
  rw [dA_eqv, dP_eqv, decide_eq_true rfl, decide_eq_true rfl]; rfl
theorem turnat_x {K : PySem.W.Frag} {H : Hp} {k : Nat} {x : V} {t : List Int} (h : TurnAt K H x t) (i : IsTurn k t) (k9 : k ≤ 12) : TurnX K H k x true := by
  have l := i.len
  have : decide (sortI t = rangeI k) = true := decide_eq_true (turn_iff.mpr i)
  rw [← this]
  refine .nums h (fun c hc => ?_) (by omega)
  have := i.pm.mem_iff.mp hc
  unfold rangeI at this
  obtain ⟨m, hm, rfl⟩ := List.mem_map.mp this
  have := List.mem_range.mp hm
  omega
theorem turnats_x {K : PySem.W.Frag} {H : Hp} {k : Nat} (k9 : k ≤ 12) {xs : List V} {ts : List (List Int)} (h : Paired (TurnAt K H) xs ts) (tt : ∀ t ∈ ts, IsTurn k t) : Paired (TurnX K H k) xs (List.replicate xs.length true) := by
  induction h with
  | nil => exact .nil
  | cons a _ ih => exact .cons (turnat_x a (tt _ (by simp)) k9) (ih fun t ht => tt t (by simp [ht]))
theorem bad_no {n i : Nat} (b : BadB (List.replicate n true) i) : False := by
  have := List.eq_of_mem_replicate (List.mem_of_getElem? b.1)
  cases this
theorem cov_ok {K : PySem.W.Frag} {C CQ CR n : Addr} {ms : List Int} {L : List (Int × Int)} {z : V} {H : Hp} {Q : VK} {E : XK} {k : Nat} {xs : List V} {ts : List (List Int)} (k1 : 1 ≤ k) (k12 : k ≤ 12) (hN : NetL C H n ms L) (ov : Ov ms L k) (hz : SqX K H z (some xs)) (lx : xs.length = L.length)
    (pT : Paired (TurnAt K H) xs ts) (tt : ∀ t ∈ ts, IsTurn k t) (h : ∀ H' s, Same H H' → Made C H' s ms L k ts → Q (.ref s) H') : spCover K C CQ CR [.ref n, .int (k : Nat), z] H Q E := by
  refine ⟨n, _, z, ms, L, some (k : Int), some xs, rfl, hN, .int _, hz, fun e => (by rw [okC_nat k1 (by omega)] at e; cases e), fun _ => ⟨fun e => ?_, fun ys e1 e2 => ?_⟩⟩
  · rcases e with e | ⟨ys, e, l⟩
    · cases e
    · cases e; exact absurd lx l
  · cases e1
    exact ⟨k, _, rfl, by omega, turnats_x k12 pT tt, fun i b => (bad_no b).elim, fun _ => ⟨ts, ov, pT, tt, h⟩⟩
theorem shi_ok {K : PySem.W.Frag} {C CQ CR n : Addr} {ms : List Int} {L : List (Int × Int)} {z : V} {H : Hp} {Q : VK} {E : XK} {k : Nat} {ss : List Int} (k1 : 1 ≤ k) (k12 : k ≤ 12) (hN : NetL C H n ms L) (ov : Ov ms L k) (hz : SqX K H z (some (ss.map V.int))) (lx : ss.length = L.length) (l9 : ss.length < 1000)
    (h : ∀ H' s, Same H H' → Made C H' s ms L k (ss.map (shiftT k)) → Q (.ref s) H') : spShifted K C CQ CR [.ref n, .int (k : Nat), z] H Q E := by
  refine ⟨n, _, z, ms, L, some (k : Int), some _, rfl, hN, .int _, hz, fun e => (by rw [okC_nat k1 (by omega)] at e; cases e), fun _ => ⟨fun e => ?_, fun ys e1 e2 => ?_⟩⟩
  · rcases e with e | ⟨ys, e, l⟩
    · cases e
    · cases e; exact absurd (by rw [List.length_map]; exact lx) l
  · cases e1
    refine ⟨k, ss.map some, rfl, by omega, kins_ints ss, fun i b => ?_, fun _ => ⟨ss, ov, rfl, l9, h⟩⟩
    have := List.mem_of_getElem? b.1
    obtain ⟨o, ho, e⟩ := List.mem_map.mp this
    obtain ⟨s, _, rfl⟩ := List.mem_map.mp ho
    cases e
theorem same_pairs {L M N : List (Int × Int)} (p : L.Perm N) (p' : M.Perm N) (s : L.Pairwise lexlt) (s' : M.Pairwise lexlt) : L = M := lex_uniq s s' fun e => by rw [p.mem_iff, p'.mem_iff]
theorem mode_get {l : List Int} {i : Nat} (h : i < l.length) : modeAt l ((i : Nat) : Int) = l[i] := by
  unfold modeAt
  simp [List.getD_eq_getElem?_getD, h]
theorem times_range {k n : Nat} (hk : 0 < k) : timesL k (rangeI n) = (List.range (n * k)).map fun c => ((c : Nat) : Int) / (k : Int) := by
  refine List.ext_getElem (by rw [times_len, rangeI_len, List.length_map, List.length_range]) fun i h1 h2 => ?_
  rw [List.getElem_map, List.getElem_range]
  have h1' : i < n * k := by rwa [times_len, rangeI_len] at h1
  have e := times_at hk (rangeI n) (x := ((i : Nat) : Int)) (by omega)
  rw [mode_get h1] at e
  have hc : i / k < n := Nat.div_lt_of_lt_mul (by rw [Nat.mul_comm]; exact h1')
  have ec : ((i : Nat) : Int) / (k : Int) = ((i / k : Nat) : Int) := by simp
  rw [ec, mode_get (by rw [rangeI_len]; exact hc)] at e
  rw [e, ec]
  simp [rangeI]
theorem views_eq {k : Nat} {ms : List Int} {L L' : List (Int × Int)} (hk : 0 < k) (g' : Good (ms.length * k) 4 L') (hn : ∀ x, ((nb L' x).map fun y : Int => y / (k : Int)).Perm (nb L (x / (k : Int)))) :
    ((List.range (ms.length * k)).map fun c => viewOf (timesL k ms) L' ((c : Nat) : Int)) = (timesL k (rangeI ms.length)).map (viewOf ms L) := by
  rw [times_range hk, List.map_map]
  refine List.map_congr_left fun c hc => ?_
  have := List.mem_range.mp hc
  exact lift_view hk g' hn (by omega) (by omega)
theorem vw_same {H H' : Hp} {l : List Addr} {m : List (Int × List Int)} (h : Paired (ViewAt H) l m) (s : Same H H') : Paired (ViewAt H') l m := paired_mono h fun _ _ z => z.same s
theorem vw_upd {H : Hp} {D : Addr} {xs : List V} {o : HO} {l : List Addr} {m : List (Int × List Int)} (h : Paired (ViewAt H) l m) (hl : H D = some (.lst xs)) : Paired (ViewAt (upd H D o)) l m := paired_mono h fun _ _ ⟨r, h1, h2⟩ =>
  ⟨r, by rw [upd_ne (fun e => by rw [e, hl] at h1; cases h1)]; exact h1, by rw [upd_ne (fun e => by rw [e, hl] at h2; cases h2)]; exact h2⟩
theorem times_mem {k : Nat} {ms : List Int} {m : Int} (h : m ∈ timesL k ms) : m ∈ ms := by
  unfold timesL at h
  obtain ⟨l, hl1, hl2⟩ := List.mem_flatten.mp h
  obtain ⟨m', hm1, rfl⟩ := List.mem_map.mp hl1
  rw [List.eq_of_mem_replicate hl2]; exact hm1
def spLaw (tM : Addr) (K : PySem.W.Frag) : L2.Sp := fun vs H Q _ => ∃ (a : Addr) (ns : List Int), vs = [.ref a] ∧ SqL K H a (ns.map V.int) ∧ H tM = some (.tbl #[]) ∧ ∀ H', Q (.bl true) H'
section
variable {P : Program} {w : World} {K : PySem.W.Frag} {mg : Str → Option Value} {base : Heap} (T : TX K mg)
set_option maxHeartbeats 16000000 in
theorem G_law {cM tM CN : Addr} (B : TabB base mg cM tM) (IR : IsR K T.c_InvalidQuestion T.c_Refused) (gN : mg "NetError" = some (.ref CN)) (DC : DefC K "_law_refusals_right" s__law_refusals_right T.f__law_refusals_right cM T.d__law_refusals_right) : FnR P w K mg base CX0 (CG 13) T.f_law T.d_law ["_law_script"] (spLaw tM K) := by
  obtain ⟨oc, od, kV, doc, pm, an, cdv, ct, osl, eF, lk, hcd⟩ := T.F_law.ex
  rw [eF] at lk
  rw [eF]
  refine fnG_of lk hcd sc_law (fun vs H Q E h => ?_) fun A outer s H vs Q E hr hg h => ?_
  · obtain ⟨a, ns, rfl, _⟩ := h
    rfl
  have hu : (A.deeper (envOfC "law" (defScope s_law) s.heap.objs.size T.f_law cdv)).units + 66 < cLine := by
    have := hr.un
    omega
  refine ⟨_, PSs.nox (pss_cons (ps_set (i := 1) sc_law.nd rfl (.inr rfl) (pe_call (G__law_draw T) (hr.mono (by decide)) (by rfl) T.m__law_draw T.F__law_draw.kp T.b__law_draw .nil pass0 (by exact (pa_cons (pv 0) (pa_cons pe_int pa_nil))))) (pss_cons (ps_asg (pe_call (G__law_network T) (hr.mono (by decide)) (by rfl) T.m__law_network T.F__law_network.kp T.b__law_network .nil pass0 (by exact (pa_cons (pv 1) (pa_cons (pe_op op_add pe_int (pe_call (G__law_any T) (hr.mono (by decide)) (by rfl) T.m__law_any T.F__law_any.kp T.b__law_any .nil pass0 (by exact (pa_cons (pv 1) (pa_cons pe_int pa_nil))))) (pa_cons (pe_op op_add pe_int (pe_call (G__law_any T) (hr.mono (by decide)) (by rfl) T.m__law_any T.F__law_any.kp T.b__law_any .nil pass0 (by exact (pa_cons (pv 1) (pa_cons pe_int pa_nil))))) pa_nil))))) (pg_tupK (K := K) (n := 2) (by rfl) (pgs_cons (pg_name (i := 2) sc_law.nd rfl (.inl rfl)) (pgs_cons (pg_name (i := 3) sc_law.nd rfl (.inl rfl)) pgs_nil)))) (pss_cons (ps_set (i := 4) sc_law.nd rfl (.inr rfl) (pe_ifExp (pt_cmpR op_eq (pe_call (G__law_any T) (hr.mono (by decide)) (by rfl) T.m__law_any T.F__law_any.kp T.b__law_any .nil pass0 (by exact (pa_cons (pv 1) (pa_cons pe_int pa_nil)))) pe_int (nomark _)) pe_int (pe_op op_add pe_int (pe_call (G__law_any T) (hr.mono (by decide)) (by rfl) T.m__law_any T.F__law_any.kp T.b__law_any .nil pass0 (by exact (pa_cons (pv 1) (pa_cons pe_int pa_nil))))))) (pss_cons (ps_asg (pe_tup (pa_cons (by exact (pe_lc (own := [("_law_link", 12)]) (by rfl) sc_law.nd (pi_listK (K := K) (pv 3)) (blkOk_by (own := [("_law_link", 12)]) (N := N_law) (sc := defScope s_law) (by decide +kernel)) (fun _ _ _ _ _ => (pg_name (i := 12) sc_law.nd rfl (.inl rfl))) (fun _ _ _ _ _ => pts_nil) (fun _ _ _ _ _ => (pe_call (G__law_turn T) (hr.mono (by decide)) (by rfl) T.m__law_turn T.F__law_turn.kp T.b__law_turn .nil pass0 (by exact (pa_cons (pv 1) (pa_cons (pv 4) pa_nil))))) )) (pa_cons (pe_make T.M_Network (G_Network_init T) (hr.mono (by decide)) (by rfl) T.m_Network T.b_Network_init .nil passL (by exact (pa_cons (pv 2) (pa_cons (pv 3) pa_nil)))) pa_nil))) (pg_tupK (K := K) (n := 2) (by rfl) (pgs_cons (pg_name (i := 5) sc_law.nd rfl (.inl rfl)) (pgs_cons (pg_name (i := 6) sc_law.nd rfl (.inr rfl)) pgs_nil)))) (pss_cons (ps_setLc (i := 7) (own := [("_law_link", 12)]) (by rfl) sc_law.nd rfl rfl (sw_true rfl rfl rfl (by decide +kernel)) (pi_listK (K := K) (pv 3)) (blkOk_by (own := [("_law_link", 12)]) (N := N_law) (sc := defScope s_law) (by decide +kernel)) (fun _ _ _ _ _ => (pg_name (i := 12) sc_law.nd rfl (.inl rfl))) (fun _ _ _ _ _ => pts_nil) (fun _ _ _ _ _ => (pe_call (G__law_of T) (hr.mono (by decide)) (by rfl) T.m__law_of T.F__law_of.kp T.b__law_of .nil pass0 (by exact (pa_cons (pv 1) (pa_cons (pe_lst (pa_cons pe_int (pa_cons pe_int (pa_cons pe_int (pa_cons (pv 4) (pa_cons (pe_op op_sub pe_int pe_int) (pa_cons (pe_op op_add (pe_op op_pow pe_int pe_int) pe_int) (pa_cons (pe_op op_sub pe_int (pe_op op_pow pe_int pe_int)) (pa_cons (pe_call (G__law_any T) (hr.mono (by decide)) (by rfl) T.m__law_any T.F__law_any.kp T.b__law_any .nil pass0 (by exact (pa_cons (pv 1) (pa_cons pe_int pa_nil)))) pa_nil))))))))) pa_nil))))) ) (pss_cons (ps_par (i := 8) (j := 9) (by rfl) sc_law.nd rfl rfl (by decide) rfl rfl (pa_cons (pe_callB (cr_reprK (K := K) hg hu) (by rfl) T.n_repr (by decide +kernel) (by exact (pa_cons (pe_tup (pa_cons (pv 5) (pa_cons (pv 7) pa_nil))) pa_nil))) (pa_cons (pe_call (G__law_below T) (hr.mono (by decide)) (by rfl) T.m__law_below T.F__law_below.kp T.b__law_below .nil pass0 (by exact (pa_cons (pe_callB (cr_lenK (K := K)) (by rfl) T.n_len (by decide +kernel) (by exact (pa_cons (pv 2) pa_nil))) (pa_cons (pv 4) pa_nil)))) pa_nil)) (by rfl)) (pss_cons (ps_set (i := 10) sc_law.nd rfl (.inr rfl) (pe_callK (G_cover T) (hr.mono (by decide)) (by rfl) T.m_cover T.F_cover.kp (kb_cover T) passL (by exact (pk_cons (pv 5) (pk_cons (pv 4) (pk_cons (pv 6) pk_nil)))))) (pss_cons (ps_if (PW.pt (pw_or (pt_cmpR (op_neDK (K := K) hr.units) (pe_tup (pa_cons (pe_fldK (K := K) (pv 10)) (pa_cons (pe_fldK (K := K) (pv 10)) pa_nil))) (pe_call (G__law_due T) (hr.mono (by decide)) (by rfl) T.m__law_due T.F__law_due.kp T.b__law_due .nil pass0 (by exact (pa_cons (pv 2) (pa_cons (pv 3) (pa_cons (pv 4) (pa_cons (pv 5) pa_nil)))))) (nomark _)) (pw_or1 (pt_cmpR op_notBl (pe_callD (G_is_over T) (hr.mono (by decide)) (by rfl) T.m_is_over T.F_is_over.kp T.B_is_over pass0 (by exact (pa_cons (pv 10) (pa_cons (pv 6) (pa_cons (pv 9) pa_nil))))) pe_bl (nomark _))))) (pss_one (ps_ret pe_bl)) pss_nil) (pss_cons (ps_if (pt_cmpR (op_neDK (K := K) hr.units) (by exact (pe_lc (own := [("_law_at", 13)]) (by rfl) sc_law.nd (pi_range1 (by rfl) T.n_range (by exact (pa_cons (pe_callB (cr_lenK (K := K)) (by rfl) T.n_len (by decide +kernel) (by exact (pa_cons (pv 9) pa_nil))) pa_nil))) (blkOk_by (own := [("_law_at", 13)]) (N := N_law) (sc := defScope s_law) (by decide +kernel)) (fun _ _ _ _ _ => (pg_name (i := 13) sc_law.nd rfl (.inl rfl))) (fun _ _ _ _ _ => pts_nil) (fun _ _ _ _ _ => (pe_meth (pv 10) T.C_Network T.H_Network_view (G_Network_view T) (hr.mono (by decide)) T.b_Network_view .nil passL (by exact (pa_cons (pv 13) pa_nil)))) )) (by exact (pe_lc (own := [("_law_site", 14)]) (by rfl) sc_law.nd (pi_tupK (K := K) (pv 9)) (blkOk_by (own := [("_law_site", 14)]) (N := N_law) (sc := defScope s_law) (by decide +kernel)) (fun _ _ _ _ _ => (pg_name (i := 14) sc_law.nd rfl (.inl rfl))) (fun _ _ _ _ _ => pts_nil) (fun _ _ _ _ _ => (pe_meth (pv 6) T.C_Network T.H_Network_view (G_Network_view T) (hr.mono (by decide)) T.b_Network_view .nil passL (by exact (pa_cons (pv 14) pa_nil)))) )) (nomark _)) (pss_one (ps_ret pe_bl)) pss_nil) (pss_cons (ps_setLc (i := 11) (own := [("_law_shift", 15)]) (by rfl) sc_law.nd rfl rfl (sw_true rfl rfl rfl (by decide +kernel)) (pi_listK (K := K) (pv 7)) (blkOk_by (own := [("_law_shift", 15)]) (N := N_law) (sc := defScope s_law) (by decide +kernel)) (fun _ _ _ _ _ => (pg_name (i := 15) sc_law.nd rfl (.inr rfl))) (fun _ _ _ _ _ => pts_nil) (fun _ _ _ _ _ => (by exact (pe_lc (own := [("_law_copy", 16)]) (by rfl) sc_law.nd (pi_range1 (by rfl) T.n_range (by exact (pa_cons (pv 4) pa_nil))) (blkOk_by (own := [("_law_copy", 16)]) (N := N_law) (sc := ({ kind := PySem.ScopeKind.function, names := [(PySem.Str.ofString ".0", PySem.NameKind.local), (PySem.Str.ofString "_law_shift", PySem.NameKind.cell), (PySem.Str.ofString "range", PySem.NameKind.globalImplicit), (PySem.Str.ofString "_law_copies", PySem.NameKind.cell)], isGenerator := false, isCoroutine := false, more := [] } : PySem.Scope)) (by decide +kernel)) (fun _ _ _ _ _ => (pg_name (i := 16) sc_law.nd rfl (.inl rfl))) (fun _ _ _ _ _ => pts_nil) (fun _ _ _ _ _ => (pe_op op_mod (pe_callTy call_int1 (by rfl) T.n_int (by decide +kernel) (by exact (pa_cons (pe_op op_add (pv 16) (pv 15)) pa_nil))) (pv 4))) ))) ) (pss_cons (ps_set (i := 10) sc_law.nd rfl (.inr rfl) (pe_callK (G_shifted T) (hr.mono (by decide)) (by rfl) T.m_shifted T.F_shifted.kp (kb_shifted T) passL (by exact (pk_cons (pe_tupleK (K := K) (by rfl) T.n_tuple (pv 7)) (pk_cons (pv 4) (pk_cons (pv 6) pk_nil)))))) (pss_cons (ps_if (PW.pt (pw_or (pt_cmpR (op_neDK (K := K) hr.units) (pe_tup (pa_cons (pe_fldK (K := K) (pv 10)) (pa_cons (pe_fldK (K := K) (pv 10)) pa_nil))) (pe_call (G__law_due T) (hr.mono (by decide)) (by rfl) T.m__law_due T.F__law_due.kp T.b__law_due .nil pass0 (by exact (pa_cons (pv 2) (pa_cons (pv 3) (pa_cons (pv 4) (pa_cons (pv 11) pa_nil)))))) (nomark _)) (pw_or1 (pt_not (pt_cmpR (op_ownEqK (K := K) (sp := spEqN K T.c_Network) T.O_Network (G_Network_eq T) T.b_Network_eq (hr.mono (by decide))) (pv 10) (pe_call (G_cover T) (hr.mono (by decide)) (by rfl) T.m_cover T.F_cover.kp T.b_cover .nil passL (by exact (pa_cons (pv 6) (pa_cons (pv 4) (pa_cons (pe_tupleK (K := K) (by rfl) T.n_tuple (pv 11)) pa_nil))))) (nomark _)))))) (pss_one (ps_ret pe_bl)) pss_nil) (pss_cons (ps_if (PW.pt (pw_or (pt_not (pt_val (pe_call (G__law_refusals_right T B IR gN DC) (hr.mono (by decide)) (by rfl) T.m__law_refusals_right T.F__law_refusals_right.kp T.b__law_refusals_right .nil pass0 (by exact (pa_cons (pv 1) (pa_cons (pv 6) (pa_cons (pv 3) (pa_cons (pv 4) (pa_cons (pv 5) (pa_cons (pv 7) pa_nil)))))))))) (pw_or1 (pt_cmpR op_ne (pe_callB (cr_reprK (K := K) hg hu) (by rfl) T.n_repr (by decide +kernel) (by exact (pa_cons (pe_tup (pa_cons (pv 5) (pa_cons (pv 7) pa_nil))) pa_nil))) (pv 8) (nomark _))))) (pss_one (ps_ret pe_bl)) pss_nil) (pss_one (ps_ret (pe_cmpR (op_eqDK (K := K) hr.units) (pe_tup (pa_cons (pe_fldK (K := K) (pv 6)) (pa_cons (pe_fldK (K := K) (pv 6)) pa_nil))) (pe_tup (pa_cons (pe_tupleK (K := K) (by rfl) T.n_tuple (pv 2)) (pa_cons (pe_tupleK (K := K) (by rfl) T.n_tuple (pv 3)) pa_nil))) (nomark _))))))))))))))))), ?_⟩
  obtain ⟨a, ns0, rfl, hS, htb, hQ⟩ := h
  walk_at "rd"
  refine ⟨a, ns0, 71, rfl, hS, by decide, by decide, fun H0 p q S0 np nq d0 => ?_⟩
  walk_at "rd"
  have tb0 : Tabs [(tM, qM)] H0 := fun z hz => by
    rw [List.mem_singleton.mp hz]
    exact ⟨#[], S0 _ _ htb, by show TriplesOk []; exact trivial, fun pos cv hc => by cases hc⟩
  have W0 : Wd tM p q H0 H0 := ⟨d0, tb0, Kp.refl⟩
  clear hS S0 np nq htb d0 tb0
  refine ⟨p, q, 4, rfl, W0.d, by decide, by decide, fun H1 c d1 f1 c0 c4 => ?_⟩
  have W1 := W0.fix d1 f1
  walk_at "rd"
  refine ⟨p, q, 8, rfl, W1.d, by decide, by decide, fun H2 m d2 f2 m0 m8 => ?_⟩
  have W2 := W1.fix d2 f2
  walk_at "rd"
  obtain ⟨n, hn⟩ : ∃ n : Nat, 1 + m = (n : Nat) := Int.eq_ofNat_of_zero_le (by omega)
  rw [hn]
  refine ⟨p, q, 1 + c, n, rfl, W2.d, by omega, by omega, by omega, by omega, fun H3 t am al ms ps L d3 f3 ht am0 al0 aml amp amq alp alq hms lms bms hps pL g srt => ?_⟩
  have W3 := W2.fix d3 f3
  refine rd_gtup (Tup.of ht) rfl ?_
  subst lms
  have n1 : 0 < ms.length := by omega
  have n8 : ms.length ≤ 8 := by omega
  have mb : ∀ x ∈ ms, 0 ≤ x ∧ x < 4 := fun x hx => by have := bms x hx; omega
  have lL : L.length ≤ 32 := by have := good_len g; omega
  clear ht am0 al0 f1 f2 f3 d1 d2 d3 hn bms W0 W1 W2
  walk_at "rd"
  refine ⟨p, q, 6, rfl, W3.d, by decide, by decide, fun H4 e d4 f4 e0 e6 => ?_⟩
  have W4 := W3.fix d4 f4
  have hms4 := f4 _ _ amp amq hms
  have hps4 := f4 _ _ alp alq hps
  have pL4 := (Kp.fix W3.d f4).pairs pL
  walk_at "rd"
  refine tif_rest (fun x H' => ∃ k : Nat, x = .int (k : Nat) ∧ 1 ≤ k ∧ k ≤ 12 ∧ Wd tM p q H4 H') (fun x H5 => ?_) (fun _ Q' hQ' => ?_) (fun _ Q' hQ' => ?_)
  rotate_left
  · walk_at "rd"
    exact hQ' _ _ ⟨12, rfl, by decide, by decide, ⟨W4.d, W4.t, Kp.refl⟩⟩
  · walk_at "rd"
    refine ⟨p, q, 5, rfl, W4.d, by decide, by decide, fun H5 u d5 f5 u0 u5 => ?_⟩
    walk_at "rd"
    exact hQ' _ _ ⟨(1 + u).toNat, congrArg V.int (by omega), by omega, by omega, Wd.fix ⟨W4.d, W4.t, Kp.refl⟩ d5 f5⟩
  rintro ⟨k, rfl, k1, k12, W5⟩
  have hms5 := W5.k.ls _ _ amp amq hms4
  have hps5 := W5.k.ls _ _ alp alq hps4
  have pL5 := W5.k.pairs pL4
  clear hms hms4 hps hps4 pL pL4 d4 f4 W3 e0 e6
  walk_at "rd"
  refine ⟨al, rfl, ⟨_, SqL.of hps5⟩, fun D hD => ?_⟩
  have nD := W5.d.nes hD
  have V5 := W5.re
  refine lc_list (xs := ps.map V.ref) (fun j H' => Wd tM p q H5 H' ∧ ∃ (vs : List V) (ts : List (List Int)), H' D = some (.lst vs) ∧ vs.length = j ∧ Paired (TurnD K p q D H') vs ts ∧ ∀ t ∈ ts, IsTurn k t)
    ⟨V5.same (Same.fresh hD), [], [], upd_same, rfl, .nil, fun t h => by simp at h⟩ (fun j H' _ pv => SqL.of (pv.1.k.ls _ _ alp alq hps5)) (fun j x H6 hx pv => ?_) (fun H6 pv => ?_)
  · obtain ⟨V6, vs, ts, hvs, lvs, pT, tt⟩ := pv
    have hj : j < ps.length := by have := (List.getElem?_eq_some_iff.mp hx).1; rwa [List.length_map] at this
    have lps := paired_len pL5
    walk_at "rd"
    refine ⟨rfl, ?_⟩
    walk_at "rd"
    refine ⟨p, q, k, rfl, V6.d, k1, k12, fun H7 a7 t7 d7 f7 a70 h7 i7 => ?_⟩
    have V7 := V6.fix d7 f7
    have k7 := Kp.fix V6.d f7
    have hvs7 := k7.ls _ _ nD.1 nD.2 hvs
    have a7D : a7 ≠ D := fun w => by rw [w, hvs] at a70; cases a70
    have a7n := V6.d.nes a70
    refine ⟨_, hvs7, Nat.lt_of_lt_of_le (by omega : vs.length < 100) (by decide), V7.put hD nD.1 nD.2 hvs7, vs ++ [.ref a7], ts ++ [t7], upd_same, by rw [List.length_append, lvs]; rfl, ?_, fun t ht => ?_⟩
    · exact paired_append (paired_mono pT fun _ _ z => ⟨(z.1.kp k7).upd z.2, z.2⟩) (.cons ⟨TurnK.upd ⟨a7, rfl, a7n.1, a7n.2, h7⟩ (fun e => a7D (by cases e; rfl)), fun e => a7D (by cases e; rfl)⟩ .nil)
    · rcases List.mem_append.mp ht with z | z
      · exact tt t z
      · rw [List.mem_singleton.mp z]; exact i7
  · obtain ⟨V6, vs, ts, hvs, lvs, pT0, tt⟩ := pv
    have pT := paired_mono pT0 fun _ _ z => z.1
    have lps := paired_len pL5
    rw [List.length_map, lps] at lvs
    have lts := paired_len pT
    have W6 : Wd tM p q H5 H6 := V6
    have hms6 := W6.k.ls _ _ amp amq hms5
    have hps6 := W6.k.ls _ _ alp alq hps5
    have pL6 := W6.k.pairs pL5
    clear pT0 hD V5 V6
    walk_at "rd"
    refine rd_make ?_
    walk_at "rd"
    intro n' dx1 hs1 hd1 _
    refine net_goodR hs1 hd1 (.lst hms6) (ne_nil n1) (by omega) mb (.lst hps6) (lk_pairs pL6 g.rng) g srt (norm_good g) (fun H7 S7 N7 => ⟨rfl, ?_⟩)
    walk_at "rd"
    intro t8 H8 t80 S8 ht8
    refine rd_gtup (Tup.of ht8) rfl ?_
    have W8 : Wd tM p q H8 H8 := ((W6.same S7).same S8).re
    have N8 := net_same N7 S8
    have S68 := S7.trans S8
    have hms8 := S68 _ _ hms6
    have hps8 := S68 _ _ hps6
    have hvs8 := S68 _ _ hvs
    have pL8 := pairs_same pL6 S68
    have pT8 := turnks_kp pT (Kp.same (p := p) (q := q) S68)
    clear hms5 hps5 pL5 hms6 hps6 pL6 hvs pT W5 W6 N7 hs1 hd1 S7 S8 ht8 t80 S68
    walk_at "rd"
    refine ⟨al, rfl, ⟨_, SqL.of hps8⟩, fun D2 hD2 => ?_⟩
    have nD2 := W8.d.nes hD2
    refine lc_list (xs := ps.map V.ref) (fun j H' => Wd tM p q H8 H' ∧ ∃ ss : List Int, H' D2 = some (.lst (ss.map V.int)) ∧ ss.length = j ∧ ∀ s ∈ ss, -1000000000000 ≤ s ∧ s ≤ 1000000007)
      ⟨W8.same (Same.fresh hD2), [], upd_same, rfl, fun t h => by simp at h⟩ (fun j H' _ pv => SqL.of (pv.1.k.ls _ _ alp alq hps8)) (fun j x H9 hx pv => ?_) (fun H9 pv => ?_)
    · obtain ⟨V9, ss, hss, lss, bss⟩ := pv
      have hj : j < ps.length := by have := (List.getElem?_eq_some_iff.mp hx).1; rwa [List.length_map] at this
      walk_at "rd"
      refine ⟨rfl, ?_⟩
      walk_at "rd"
      refine rd_rI ⟨by decide, by decide, by decide⟩ ?_
      walk_at "rd"
      refine rd_rI ⟨by decide, by decide, by decide⟩ ?_
      walk_at "rd"
      refine ⟨p, q, 40, rfl, V9.d, by decide, by decide, fun Ha u da fa u0 u1 => ?_⟩
      have Va := V9.fix da fa
      have hssa := fa _ _ nD2.1 nD2.2 hss
      walk_at "rd"
      intro b Hb nb Sb eb
      have Vb := Va.same Sb
      have nbp := Va.d.nes nb
      have hssb := Sb _ _ hssa
      walk_at "rd"
      refine ⟨p, q, b, _, rfl, Vb.d, nbp.1, nbp.2, eb, by show 0 < 8; decide, by show 8 < 1000; decide, fun Hc y hy dc fc => ?_⟩
      have Vc := Vb.fix dc fc
      have hssc := fc _ _ nD2.1 nD2.2 hssb
      obtain ⟨s0, rfl, b0, b1⟩ : ∃ s0 : Int, y = .int s0 ∧ -1000000000000 ≤ s0 ∧ s0 ≤ 1000000007 := by
        have p9 : (10 : Int) ^ (Int.toNat 9) = 1000000000 := by decide
        have p12 : (10 : Int) ^ (Int.toNat 12) = 1000000000000 := by decide
        simp only [List.mem_cons, List.not_mem_nil, or_false] at hy
        rcases hy with h | h | h | h | h | h | h | h <;> exact ⟨_, h, by omega, by omega⟩
      refine ⟨_, hssc, by rw [List.length_map]; exact Nat.lt_of_lt_of_le (by omega : ss.length < 100) (by decide), Vc.put hD2 nD2.1 nD2.2 hssc, ss ++ [s0], by rw [upd_same, List.map_append]; rfl, by rw [List.length_append, lss]; rfl, fun s hs => ?_⟩
      rcases List.mem_append.mp hs with z | z
      · exact bss s z
      · rw [List.mem_singleton.mp z]; exact ⟨b0, b1⟩
    · obtain ⟨V9, ss, hss, lss, bss⟩ := pv
      rw [List.length_map, lps] at lss
      have W9 := V9.re
      have N9 := V9.k.net N8
      have hms9 := V9.k.ls _ _ amp amq hms8
      have hps9 := V9.k.ls _ _ alp alq hps8
      have hvs9 := V9.k.ls _ _ nD.1 nD.2 hvs8
      have pL9 := V9.k.pairs pL8
      have pT9 := turnks_kp pT8 V9.k
      clear V9 N8 hms8 hps8 hvs8 pL8 pT8 W8 hD2
      obtain ⟨ds, pE, txd⟩ := turnes_of k12 pT9 tt
      have lds := paired_len pE
      have rp := rep_kept (ss := ss) txd (by omega) (fun s hs => by have := bss s hs; omega) (by omega)
      have ov : Ov ms L k := ⟨g, srt, mb, n1, k1, by omega, by have : ms.length * k ≤ 8 * 12 := Nat.mul_le_mul n8 k12; omega, by have : L.length * k ≤ 32 * 12 := Nat.mul_le_mul lL k12; omega⟩
      walk_at "rd"
      intro t10 H10 z10 S10 e10
      walk_at "rd"
      refine rd_repr (d := .tuple [.list ds, .list (ss.map PyData.int)]) (.tup (SqT.of e10) (.cons (.lst (SqL.of (S10 _ _ hvs9)) (turnes_dp (turnes_kp pE (Kp.same S10)))) (.cons (dp_ints (S10 _ _ hss)) .nil))) rp.s rp.n rp.h rp.l ?_
      walk_at "rd"
      refine rd_len (S10 _ _ hms9) ?_
      rw [List.length_map]
      walk_at "rd"
      refine ⟨ms.length, k, rfl, by omega, by omega, k12, fun H11 rb S11 hrb => ?_⟩
      have S911 := S10.trans S11
      walk_at "rd"
      refine rd_callK ?_
      walk_at "rd"
      refine ⟨rfl, ?_⟩
      refine cov_ok k1 k12 (net_same N9 S911) ov (.lst (S911 _ _ hvs9)) (by omega) (paired_mono (turnk_at pT9) fun _ _ z => sqx_same z S911) tt (fun H12 s1 S12 M12 => ?_)
      have S912 := S911.trans S12
      obtain ⟨L', NL, g', srt', pm', nb'⟩ := M12
      obtain ⟨dx, pmo, pn, plo, qs0, ps2, hp, hm, hx1, hx2, hlo, pL2⟩ := NL.ob
      walk_at "rd"
      refine ⟨s1, _, dx, _, _, rfl, hp, T.C_Network, T.A_Network_modes, look_modes, ?_⟩
      walk_at "rd"
      refine ⟨s1, _, dx, _, _, rfl, hp, T.C_Network, T.A_Network_links, look_links, ?_⟩
      walk_at "rd"
      intro ta H13 za S13 eta
      walk_at "rd"
      have S913 := S912.trans S13
      refine ⟨am, al, D, k, ms.length, ms, L, ps, vs, ts, rfl, S913 _ _ hms9, S913 _ _ hps9, pairs_same pL9 S913, S913 _ _ hvs9, paired_mono (turnk_at pT9) fun _ _ z => sqx_same z S913, by omega, tt, g, srt, lL, by omega, k1, k12, by omega, fun H14 r ra rb' qs' M S14 hr ha hb pq pmm sm => ?_⟩
      have S914 := S913.trans S14
      have eM : M = L' := same_pairs pmm pm' sm srt'
      subst eM
      refine ⟨dNet (timesL k ms) M, dNet (timesL k ms) M, dp_net (S14 _ _ eta) (hm.same (S13.trans S14)) (Tup.of ((S13.trans S14) _ _ hlo)) (pairs_same pL2 (S13.trans S14)), dp_net hr (Tup.of ha) (Tup.of hb) pq, sh_net _ _, sh_net _ _, ?_⟩
      rw [eqv_net]
      walk_at "rd"
      refine iteF' rfl ?_
      walk_at "rd"
      have NL14 := net_same NL (S13.trans S14)
      have N14 := net_same N9 S914
      have hrb14 := (S12.trans (S13.trans S14)) _ _ hrb
      have lt0 := times_len k ms
      refine ⟨s1, n', .ref rb, true, timesL k ms, ms, M, L, some (timesL k (rangeI ms.length)), rfl, NL14, by rw [lt0]; exact g', by rw [lt0]; exact ov.mz, N14, g, by omega, .ok (Tup.of hrb14) (by rw [times_len, rangeI_len, lt0]) (fun s hs => ?_), fun H15 S15 => ?_⟩
      · unfold timesL at hs
        obtain ⟨l, hl1, hl2⟩ := List.mem_flatten.mp hs
        obtain ⟨m', hm1, rfl⟩ := List.mem_map.mp hl1
        rw [List.eq_of_mem_replicate hl2]
        unfold rangeI at hm1
        obtain ⟨i, hi, rfl⟩ := List.mem_map.mp hm1
        have := List.mem_range.mp hi
        omega
      rw [lift_over k1 g srt g' nb']
      walk_at "rd"
      refine ⟨true, true, rfl, rfl, ?_⟩
      walk_at "rd"
      try with_reducible refine rd_iF' rfl ?_
      try with_reducible refine iteF' rfl ?_
      walk_at "rd"
      have hrb15 := S15 _ _ hrb14
      have NL15 := net_same NL14 S15
      have N15 := net_same N14 S15
      have mk := ov.mz
      have lB : (timesL k (rangeI ms.length)).length = ms.length * k := by rw [times_len, rangeI_len]
      refine rd_lenTup (Tup.of hrb15) ?_
      rw [List.length_map, lB]
      walk_at "rd"
      refine ⟨by omega, by omega, fun D3 hD3 => ?_⟩
      refine lc_it (walk_rng (lo := 0) (n := ms.length * k)) (fun j H' => Same H15 H' ∧ ∃ us : List Addr, H' D3 = some (.lst (us.map V.ref)) ∧ Paired (ViewAt H') us ((List.range j).map fun c => viewOf (timesL k ms) M ((c : Nat) : Int)))
        ⟨Same.fresh hD3, [], upd_same, .nil⟩ (fun j H' _ _ => trivial) (fun j v H16 H17 hj pv y => ?_) (fun H16 pv => ?_)
      · obtain ⟨rfl, rfl⟩ := y
        obtain ⟨S16, us, hus, pu⟩ := pv
        refine ⟨rfl, ?_⟩
        walk_at "rd"
        refine rd_meth ?_
        walk_at "rd"
        refine rd_netm (m := "view") (net_same NL15 S16) (by decide +kernel) (by decide +kernel) (by decide +kernel) ?_
        walk_at "rd"
        have bb : belB (some ((j : Nat) : Int)) (timesL k ms).length = true := belB_iff.mpr ⟨by omega, by rw [lt0]; omega⟩
        rw [Int.zero_add]
        refine ⟨s1, _, timesL k ms, M, some ((j : Nat) : Int), rfl, net_same NL15 S16, by rw [lt0]; exact g', fun m' hm' => mb m' (times_mem hm'), .int _, fun z => (by rw [bb] at z; cases z), fun _ => ⟨_, rfl, fun H18 v18 S18 hv => ?_⟩⟩
        have hus18 := S18 _ _ hus
        have lu := paired_len pu
        rw [List.length_map, List.length_range] at lu
        refine ⟨_, hus18, ?_, same_put (S16.trans S18) hD3, us ++ [v18], by rw [upd_same]; simp, ?_⟩
        · rw [List.length_map, lu]
          exact Nat.lt_of_lt_of_le (by omega : j < 1000) (by decide)
        · rw [List.range_succ, List.map_append]
          exact vw_upd (paired_append (vw_same pu S18) (.cons hv .nil)) hus18
      obtain ⟨S16, us, hus, pu⟩ := pv
      have S1516 := S16
      walk_at "rd"
      refine ⟨rb, rfl, ⟨_, (Tup.of (S16 _ _ hrb15)).sq⟩, fun D4 hD4 => ?_⟩
      refine lc_it (walk_tup (K := K) (xs := (timesL k (rangeI ms.length)).map V.int)) (fun j H' => Same H16 H' ∧ ∃ us' : List Addr, H' D4 = some (.lst (us'.map V.ref)) ∧ Paired (ViewAt H') us' (((timesL k (rangeI ms.length)).take j).map (viewOf ms L)))
        ⟨Same.fresh hD4, [], upd_same, .nil⟩ (fun j H' _ pv => (Tup.of (pv.1 _ _ (S16 _ _ hrb15))).sq) (fun j v H17 H18 hj pv y => ?_) (fun H17 pv => ?_)
      · obtain ⟨rfl, hx⟩ := y
        obtain ⟨S17, us', hus', pu'⟩ := pv
        rw [List.getElem?_map] at hx
        obtain ⟨st, hst, rfl⟩ := Option.map_eq_some_iff.mp hx
        have hj' : j < ms.length * k := by have := (List.getElem?_eq_some_iff.mp hst).1; omega
        have bst : 0 ≤ st ∧ st < ms.length := by
          have := times_mem (List.mem_of_getElem? hst)
          unfold rangeI at this
          obtain ⟨i, hi, rfl⟩ := List.mem_map.mp this
          have := List.mem_range.mp hi
          omega
        refine ⟨rfl, ?_⟩
        walk_at "rd"
        refine rd_meth ?_
        walk_at "rd"
        refine rd_netm (m := "view") (net_same N15 (S16.trans S17)) (by decide +kernel) (by decide +kernel) (by decide +kernel) ?_
        walk_at "rd"
        have bb : belB (some st) ms.length = true := belB_iff.mpr bst
        refine ⟨n', _, ms, L, some st, rfl, net_same N15 (S16.trans S17), g, mb, .int _, fun z => (by rw [bb] at z; cases z), fun _ => ⟨_, rfl, fun H19 v19 S19 hv => ?_⟩⟩
        have hus19 := S19 _ _ hus'
        have lu := paired_len pu'
        rw [List.length_map, List.length_take] at lu
        refine ⟨_, hus19, ?_, same_put (S17.trans S19) hD4, us' ++ [v19], by rw [upd_same]; simp, ?_⟩
        · rw [List.length_map, lu]
          exact Nat.lt_of_lt_of_le (by omega : min j _ < 1000) (by decide)
        · rw [List.take_succ, hst, List.map_append]
          exact vw_upd (paired_append (vw_same pu' S19) (.cons hv .nil)) hus19
      obtain ⟨S17, us', hus', pu'⟩ := pv
      rw [List.length_map, List.take_length] at pu'
      have S15_17 := S16.trans S17
      refine ⟨_, _, .lst (SqL.of (S17 _ _ hus)) (dp_views (vw_same pu S17)), .lst (SqL.of hus') (dp_views pu'), dV_shL _, dV_shL _, ?_⟩
      rw [show PyData.eqv (.list (((List.range (ms.length * k)).map fun c => viewOf (timesL k ms) M ((c : Nat) : Int)).map dV)) (.list (((timesL k (rangeI ms.length)).map (viewOf ms L)).map dV)) = true from (dV_eqv _ _).trans (decide_eq_true (views_eq k1 g' nb'))]
      walk_at "rd"
      try with_reducible refine iteF' rfl ?_
      walk_at "rd"
      have S917 : Same H9 H17 := (S914.trans S15).trans S15_17
      have N17 := net_same N9 S917
      have hms17 := S917 _ _ hms9
      have hps17 := S917 _ _ hps9
      have hvs17 := S917 _ _ hvs9
      have hss17 := S917 _ _ hss
      have pL17 := pairs_same pL9 S917
      have pT17 := turnks_kp pT9 (Kp.same (p := p) (q := q) S917)
      have pE17 := turnes_kp pE (Kp.same (p := p) (q := q) S917)
      have W17 := (W9.same S917).re
      clear NL NL14 NL15 hp hm hx1 hx2 hlo pL2 hrb hrb14 hrb15 pu pu' hus hus' S15_17 S1516 S16 S17 S15 S14 S13 S12 S11 S10 S911 S912 S913 S914 e10 eta hr ha hb pq pmm sm N14 N15 N9 g' srt' pm' nb' hms9 hps9 hvs9 hss pL9 pT9 W9 pE
      have mk96 : ms.length * k ≤ 8 * 12 := Nat.mul_le_mul n8 k12
      walk_at "rd"
      refine ⟨D2, rfl, ⟨_, SqL.of hss17⟩, fun D5 hD5 => ?_⟩
      have nD5 := W17.d.nes hD5
      refine lc_list (xs := ss.map V.int) (fun i H' => Same H17 H' ∧ ∃ qs : List Addr, H' D5 = some (.lst (qs.map V.ref)) ∧ qs.length = i ∧ Paired (FreshT D5 H') qs ((ss.take i).map (shiftT k)))
        ⟨Same.fresh hD5, [], upd_same, rfl, .nil⟩ (fun i H' _ pv => SqL.of (pv.1 _ _ hss17)) (fun i y H18 hy pv => ?_) (fun H18 pv => ?_)
      · obtain ⟨S18, qs5, hqs, lq, pq⟩ := pv
        rw [List.getElem?_map] at hy
        obtain ⟨s0, hs0, rfl⟩ := Option.map_eq_some_iff.mp hy
        have hi : i < ss.length := (List.getElem?_eq_some_iff.mp hs0).1
        walk_at "rd"
        refine ⟨rfl, ?_⟩
        walk_at "rd"
        refine ⟨by omega, by omega, fun D6 hD6 => ?_⟩
        have nD6 : D6 ≠ D5 := fun w => by rw [w, hqs] at hD6; cases hD6
        refine lcv_rng (n := k) ((shiftT k s0).map V.int) (by rw [List.length_map, shift_len]) (by rw [List.length_map, shift_len]; omega) hD6 (fun j z' H19 hj hz S19 R hR => ?_) (fun H19 S19 e => ?_)
        · refine ⟨rfl, ?_⟩
          walk_at "rd"
          refine .inl ⟨_, rfl, ?_⟩
          walk_at "rd"
          refine rd_rI (by omega) ?_
          have ez : z' = V.int ((0 + (j : Nat) + s0) % (k : Int)) := by
            rw [List.getElem?_map] at hz
            obtain ⟨b, hb, rfl⟩ := Option.map_eq_some_iff.mp hz
            have : (shiftT k s0)[j]? = some ((((j : Nat) : Int) + s0) % (k : Int)) := by simp [shiftT, rangeI, hj]
            rw [hb] at this
            rw [Option.some.inj this, Int.zero_add]
          rw [← ez]
          exact hR H19 (Same.refl H19)
        · refine ⟨_, S19 _ _ hqs, ?_, same_put (S18.trans S19) hD5, qs5 ++ [D6], by rw [upd_same, List.map_append]; rfl, by rw [List.length_append, lq]; rfl, ?_⟩
          · rw [List.length_map, lq]
            exact Nat.lt_of_lt_of_le (by omega : i < 1000) (by decide)
          · have st : ss.take (i + 1) = ss.take i ++ [s0] := by rw [List.take_succ, hs0]; rfl
            rw [st, List.map_append]
            exact freshs_upd (paired_append (freshs_same pq S19) (.cons ⟨e, nD6⟩ .nil))
      obtain ⟨S18, qs5, hqs, lq, pq⟩ := pv
      rw [List.length_map] at lq pq
      rw [List.take_length] at pq
      walk_at "rd"
      refine rd_callK ?_
      walk_at "rd"
      refine rd_tupL (S18 _ _ hss17) fun tS H19 zS S19 etS => ?_
      walk_at "rd"
      refine ⟨rfl, ?_⟩
      have S1719 := S18.trans S19
      refine shi_ok k1 k12 (net_same N17 S1719) ov (.tup (Tup.of etS)) (by omega) (by omega) (fun H20 s2 S20 M20 => ?_)
      obtain ⟨L2', NL2, g2, srt2, pm2, nb2⟩ := M20
      obtain ⟨dx2, pmo2, pn2, plo2, qs02, ps22, hp2, hm2, hx12, hx22, hlo2, pL22⟩ := NL2.ob
      walk_at "rd"
      refine ⟨s2, _, dx2, _, _, rfl, hp2, T.C_Network, T.A_Network_modes, look_modes, ?_⟩
      walk_at "rd"
      refine ⟨s2, _, dx2, _, _, rfl, hp2, T.C_Network, T.A_Network_links, look_links, ?_⟩
      walk_at "rd"
      intro tb H21 zb S21 etb
      walk_at "rd"
      have S1721 := (S1719.trans S20).trans S21
      have fr21 := freshs_same pq (S19.trans (S20.trans S21))
      have tts : ∀ t ∈ ss.map (shiftT k), IsTurn k t := fun t ht => by obtain ⟨s1', _, rfl⟩ := List.mem_map.mp ht; exact shift_turn k1 s1'
      refine ⟨am, al, D5, k, ms.length, ms, L, ps, _, ss.map (shiftT k), rfl, S1721 _ _ hms17, S1721 _ _ hps17, pairs_same pL17 S1721, (S19.trans (S20.trans S21)) _ _ hqs, freshs_turn fr21, by rw [List.length_map]; omega, tts, g, srt, lL, by omega, k1, k12, by omega, fun H22 r2 ra2 rb2 qs2' M2 S22 hr2 ha2 hb2 pq2 pmm2 sm2 => ?_⟩
      have eM2 : M2 = L2' := same_pairs pmm2 pm2 sm2 srt2
      subst eM2
      refine ⟨dNet (timesL k ms) M2, dNet (timesL k ms) M2, dp_net (S22 _ _ etb) (hm2.same (S21.trans S22)) (Tup.of ((S21.trans S22) _ _ hlo2)) (pairs_same pL22 (S21.trans S22)), dp_net hr2 (Tup.of ha2) (Tup.of hb2) pq2, sh_net _ _, sh_net _ _, ?_⟩
      rw [eqv_net]
      walk_at "rd"
      refine iteF' rfl ?_
      walk_at "rd"
      have S1722 := S1721.trans S22
      refine rd_tupL ((S19.trans (S20.trans (S21.trans S22))) _ _ hqs) fun tT H23 zT S23 etT => ?_
      walk_at "rd"
      have S1723 := S1722.trans S23
      have fr23 := freshs_same fr21 (S22.trans S23)
      refine cov_ok k1 k12 (net_same N17 S1723) ov (.tup (Tup.of etT)) (by rw [List.length_map]; omega) (freshs_turn fr23) tts (fun H24 s3 S24 M24 => ?_)
      obtain ⟨L3', NL3, g3, srt3, pm3, nb3⟩ := M24
      have eL3 : L3' = M2 := same_pairs pm3 pm2 srt3 srt2
      subst eL3
      have NL24 := net_same NL2 (S21.trans (S22.trans (S23.trans S24)))
      have lM2 := good_len g2
      have S1724 := S1723.trans S24
      have N24 := net_same N17 S1724
      have W24 := (W17.same S1724).re
      have hms24 := S1724 _ _ hms17
      have hps24 := S1724 _ _ hps17
      have hvs24 := S1724 _ _ hvs17
      have hss24 := S1724 _ _ hss17
      have pL24 := pairs_same pL17 S1724
      have pT24 := turnks_kp pT17 (Kp.same (p := p) (q := q) S1724)
      have pE24 := turnes_kp pE17 (Kp.same (p := p) (q := q) S1724)
      try walk_at "rd"
      refine rd_ownN T.I_Network NL24 NL3 (by rw [times_len]; omega) (by omega) (by rw [times_len]; omega) (by omega) ?_
      rw [decide_eq_true rfl, decide_eq_true rfl]
      clear NL24 NL3 g2 g3 srt2 srt3 pm2 pm3 nb2 nb3 hr2 ha2 hb2 pq2 pmm2 sm2 hp2 hm2 hx12 hx22 hlo2 pL22 fr21 fr23 etb etT etS S1723 S1722 S1721 S1719 S18 S19 S20 S21 S22 S23 S24 pq hqs S1724 N17 W17 hms17 hps17 hvs17 hss17 pL17 pT17 pE17 hD5 NL2
      walk_at "rd"
      try with_reducible refine rd_iF' rfl ?_
      try with_reducible refine iteF' rfl ?_
      try walk_at "rd"
      refine ⟨p, q, n', al, D, D2, k, ms, L, ps, vs, ts, ss, rfl, W24, k1, k12, N24, ov, lL, alp, alq, hps24, pL24, nD.1, nD.2, hvs24, pT24, by omega, tt, nD2.1, nD2.2, hss24, by omega, fun H25 W25 => ?_⟩
      have N25 := W25.k.net N24
      have hms25 := W25.k.ls _ _ amp amq hms24
      have hps25 := W25.k.ls _ _ alp alq hps24
      have hvs25 := W25.k.ls _ _ nD.1 nD.2 hvs24
      have hss25 := W25.k.ls _ _ nD2.1 nD2.2 hss24
      have pL25 := W25.k.pairs pL24
      have pE25 := turnes_kp pE24 W25.k
      walk_at "rd"
      try with_reducible refine rd_iF' rfl ?_
      try with_reducible refine iteF' rfl ?_
      try walk_at "rd"
      intro t26 H26 z26 S26 e26
      try walk_at "rd"
      refine rd_repr (d := .tuple [.list ds, .list (ss.map PyData.int)]) (.tup (SqT.of e26) (.cons (.lst (SqL.of (S26 _ _ hvs25)) (turnes_dp (turnes_kp pE25 (Kp.same S26)))) (.cons (dp_ints (S26 _ _ hss25)) .nil))) rp.s rp.n rp.h rp.l ?_
      try walk_at "rd"
      refine rd_neS ?_
      rw [decide_eq_true rfl]
      walk_at "rd"
      try with_reducible refine rd_iF' rfl ?_
      try with_reducible refine iteF' rfl ?_
      try walk_at "rd"
      have N26 := net_same N25 S26
      obtain ⟨dx3, pmo3, pn3, plo3, qs03, ps33, hp3, hm3, hx13, hx23, hlo3, pL33⟩ := N26.ob
      refine ⟨n', _, dx3, _, _, rfl, hp3, T.C_Network, T.A_Network_modes, look_modes, ?_⟩
      walk_at "rd"
      refine ⟨n', _, dx3, _, _, rfl, hp3, T.C_Network, T.A_Network_links, look_links, ?_⟩
      walk_at "rd"
      intro t27 H27 z27 S27 e27
      walk_at "rd"
      refine rd_tupL (S27 _ _ (S26 _ _ hms25)) fun u28 H28 z28 S28 e28 => ?_
      walk_at "rd"
      refine rd_tupL (S28 _ _ (S27 _ _ (S26 _ _ hps25))) fun u29 H29 z29 S29 e29 => ?_
      walk_at "rd"
      intro t30 H30 z30 S30 e30
      walk_at "rd"
      have S2630 := S27.trans (S28.trans (S29.trans S30))
      refine ⟨dNet ms L, dNet ms L, dp_net ((S28.trans (S29.trans S30)) _ _ e27) (hm3.same S2630) (Tup.of (S2630 _ _ hlo3)) (pairs_same pL33 S2630), dp_net e30 (Tup.of ((S29.trans S30) _ _ e28)) (Tup.of (S30 _ _ e29)) (pairs_same pL25 (S26.trans S2630)), sh_net _ _, sh_net _ _, ?_⟩
      rw [eqv_net]
      exact hQ _
end
end K71

namespace K71
open PySem PySem.Spec PyProof.Rows L2 L2H KX
/-! what the top has written, as one test -/
def ClsAt (K : PySem.W.Frag) (c : Addr) : Prop := ∃ nm q N bs bm sn sub ab col dd k0 k1 k2 k3 k5,
  K.lookup c = some (excClassObj nm q c N bs bm true sn sub ab col dd k0 k1 k2 k3 k5 "ValueError.__new__") ∧ PySem.HandSPX.refsVE bm = true
def IniAt (K : PySem.W.Frag) (qn : Str) (f : Addr) : Prop :=
  ∃ (oc : Value) (od : Option Addr) (doc pm : Value) (an : Option Addr) (cdv ct : Value) (osl : Array (Option Value)) (p1 p2 q1 q2 q3 q4 : Pos),
    K.lookup f = some ⟨oc, od, .func (PySem.W.fnOf "__init__" qn (PySem.ErrX.iA p1 p2) (PySem.ErrX.iB q1 q2 q3 q4) PySem.ErrX.iS .none .none doc pm an cdv ct), osl⟩ ∧
      PySem.W.codeIn K cdv qn = true
def okE (K : PySem.W.Frag) (c f cn : Addr) : Bool :=
  xfB K c && (decide (PySem.W.findIn K (.ref c) "at" = some none) &&
  (decide (PySem.W.findIn K (.ref c) "__setattr__" = some (some (.builtin "object.__setattr__"))) &&
  (decide (PySem.W.findIn K (.ref c) "__init__" = some (some (.ref f))) &&
  (decide (PySem.W.typeIn K (.ref f) = some (.type "function")) && (PySem.W.keepIn K (.ref c) &&
  (decide (PySem.W.typeIn K (.ref c) = some (.type "type")) && (decide (PySem.W.exmOne K (.ref c) (.ref c) = some true) &&
  (decide (PySem.W.findIn K (.ref c) "__class__" = some (some (.builtin "object.__class__"))) &&
  (decide (PySem.W.specialIn K (.builtin "object.__class__") "__get__" = some (some (.builtin "getset_descriptor.__get__"))) &&
  (decide (PySem.W.takesIn K (.builtin "object.__class__") = some true) && (decide (PySem.W.mroIn K c (.type "object") = some true) &&
  (decide (PySem.W.kitOne K (.ref c) (.type "ValueError") = some true) &&
   decide (PySem.W.exmOne K (.ref c) (.ref cn) = some true)))))))))))))
structure OkE (K : PySem.W.Frag) (c f cn : Addr) : Prop where
  xf : XfC K c
  no : PySem.W.findIn K (.ref c) "at" = some none
  sa : PySem.W.findIn K (.ref c) "__setattr__" = some (some (.builtin "object.__setattr__"))
  ini : PySem.W.findIn K (.ref c) "__init__" = some (some (.ref f))
  tf : PySem.W.typeIn K (.ref f) = some (.type "function")
  kc : PySem.W.keepIn K (.ref c) = true
  ty : PySem.W.typeIn K (.ref c) = some (.type "type")
  te : PySem.W.exmOne K (.ref c) (.ref c) = some true
  ha : PySem.W.findIn K (.ref c) "__class__" = some (some (.builtin "object.__class__"))
  hn : PySem.W.specialIn K (.builtin "object.__class__") "__get__" = some (some (.builtin "getset_descriptor.__get__"))
  ht : PySem.W.takesIn K (.builtin "object.__class__") = some true
  hm : PySem.W.mroIn K c (.type "object") = some true
  ve : PySem.W.kitOne K (.ref c) (.type "ValueError") = some true
  exm : PySem.W.exmOne K (.ref c) (.ref cn) = some true
theorem okE_ok {K : PySem.W.Frag} {c f cn : Addr} (h : okE K c f cn = true) : OkE K c f cn := by
  unfold okE at h
  simp only [Bool.and_eq_true, decide_eq_true_eq] at h
  obtain ⟨h1, h2, h3, h4, h5, h6, h7, h8, h9, h10, h11, h12, h13, h14⟩ := h
  exact ⟨xfB_ok h1, h2, h3, h4, h5, h6, h7, h8, h9, h10, h11, h12, h13, h14⟩
theorem err_of {K : PySem.W.Frag} {mg : Str → Option Value} {en qn : Str} {c f cn : Addr} (z : OkE K c f cn)
    (g : mg en = some (.ref c)) (hc : ClsAt K c) (hf : IniAt K qn f) : PySem.ErrX.ErrTxt K mg en qn c f :=
  ⟨g, hc, z.sa, z.xf.ga, z.xf.gg, z.no, z.ini, z.tf, z.kc, z.xf.exC, z.ty, z.xf.hdC, z.te, hf⟩
/-- a def of the top, or of a class, at f -/
def DefAt (K : PySem.W.Frag) (x q : Str) (st : Stmt) (f : Addr) : Prop :=
  ∃ (oc : Value) (od : Option Addr) (kV doc pm : Value) (an : Option Addr) (cdv ct : Value) (osl : Array (Option Value)),
    K.lookup f = some ⟨oc, od, .func (PySem.W.fnOf x q (defArgs st) (defBody st) (defScope st) .none kV doc pm an cdv ct), osl⟩ ∧
      PySem.W.codeIn K cdv q = true
theorem fun_of {K : PySem.W.Frag} {x q : Str} {st : Stmt} {f : Addr} (h : DefAt K x q st f) (k : PySem.W.keepIn K (.ref f) = true) :
    ∃ fd kV doc pm an cdv ct, fd = PySem.W.fnOf x q (defArgs st) (defBody st) (defScope st) .none kV doc pm an cdv ct ∧ Fun K x q st f fd := by
  obtain ⟨oc, od, kV, doc, pm, an, cdv, ct, osl, l, c⟩ := h
  exact ⟨_, kV, doc, pm, an, cdv, ct, rfl, fun_mk l c k⟩
/-- a def whose code object is known -/
def DefCAt (K : PySem.W.Frag) (x : Str) (st : Stmt) (f c : Addr) : Prop :=
  ∃ (oc : Value) (od : Option Addr) (kV doc pm : Value) (an : Option Addr) (ct : Value) (osl : Array (Option Value)),
    K.lookup f = some ⟨oc, od, .func (PySem.W.fnOf x x (defArgs st) (defBody st) (defScope st) .none kV doc pm an (.ref c) ct), osl⟩ ∧ PySem.W.codeIn K (.ref c) x = true
theorem defC_of {K : PySem.W.Frag} {x : Str} {st : Stmt} {f c : Addr} (h : DefCAt K x st f c) (k : PySem.W.keepIn K (.ref f) = true) : ∃ fd, DefC K x st f c fd ∧ Fun K x x st f fd := by
  obtain ⟨oc, od, kV, doc, pm, an, ct, osl, l, hc⟩ := h
  exact ⟨_, ⟨oc, od, kV, doc, pm, an, ct, osl, rfl, l, hc⟩, fun_mk l hc k⟩
/-- what is asked of a class with an own == -/
def okKC (K : PySem.W.Frag) (c i e : Addr) (fs : List Str) : Bool :=
  PySem.W.plainGet K c Str.empty && (PySem.W.hasDictIn K c && (PySem.W.plainOver K c &&
  (decide (PySem.W.findIn K (.ref c) "__setattr__" = some (some (.builtin "object.__setattr__"))) &&
  (fs.all (fun f => decide (PySem.W.findIn K (.ref c) f = some none)) && (PySem.W.makesIn K c &&
  (decide (PySem.W.findIn K (.ref c) "__init__" = some (some (.ref i))) && (PySem.W.isFn K (.ref i) && (PySem.W.keepIn K (.ref c) &&
  (decide (PySem.W.findIn K (.ref c) "__class__" = some (some (.builtin "object.__class__"))) &&
  (decide (PySem.W.specialIn K (.builtin "object.__class__") "__get__" = some (some (.builtin "getset_descriptor.__get__"))) &&
  (decide (PySem.W.takesIn K (.builtin "object.__class__") = some true) && (decide (PySem.W.mroIn K c (.type "object") = some true) &&
  (decide (PySem.W.kitOne K (.ref c) (.ref c) = some true) &&
  (decide (PySem.W.findIn K (.ref c) "__eq__" = some (some (.ref e))) && (PySem.W.isFn K (.ref e) &&
  (decide (PySem.W.findIn K (.ref c) "__ne__" = some (some (.builtin "object.__ne__"))) &&
  (PySem.W.notFirst K c (.type "tuple") && decide (PySem.W.kitOne K (.type "tuple") (.ref c) = some false))))))))))))))))))
structure KCl (K : PySem.W.Frag) (c i e : Addr) (fs : List Str) : Prop where
  cls : Cls K c
  no : ∀ f ∈ fs, NoAttr K c f
  mks : Mk K c i
  isi : IsCls K c
  own : OwnC K c e
  nf : PySem.W.notFirst K c (.type "tuple") = true
  kt : PySem.W.kitOne K (.type "tuple") (.ref c) = some false
theorem okKC_ok {K : PySem.W.Frag} {c i e : Addr} {fs : List Str} (h : okKC K c i e fs = true) : KCl K c i e fs := by
  unfold okKC at h
  simp only [Bool.and_eq_true, decide_eq_true_eq, List.all_eq_true] at h
  obtain ⟨h1, h2, h3, h4, h5, h6, h7, h8, h9, h10, h11, h12, h13, h14, h15, h16, h17, h18, h19⟩ := h
  have C : Cls K c := ⟨h1, h2, h3, h4⟩
  exact ⟨C, fun f hf => h5 f hf, ⟨h6, h7, h8, h9⟩, ⟨C, h10, h11, h12, h13, h14⟩, ⟨h15, h16, h17, h13⟩, h18, h19⟩
theorem all3 {α : Type} {P : α → Prop} {x y z : α} (a : P x) (b : P y) (c : P z) : ∀ p ∈ [x, y, z], P p := fun p hp => by
  simp only [List.mem_cons, List.not_mem_nil, or_false] at hp
  rcases hp with rfl | rfl | rfl <;> assumption
def DefKAt (K : PySem.W.Frag) (x q : Str) (st : Stmt) (f D : Addr) : Prop :=
  ∃ (oc : Value) (od : Option Addr) (doc pm : Value) (an : Option Addr) (cdv ct : Value) (osl : Array (Option Value)),
    K.lookup f = some ⟨oc, od, .func (PySem.W.fnOf x q (defArgs st) (defBody st) (defScope st) .none (.ref D) doc pm an cdv ct), osl⟩ ∧
      PySem.W.codeIn K cdv q = true
theorem funK_of {K : PySem.W.Frag} {x q : Str} {st : Stmt} {f D : Addr} {n : Str} {v : Value} {y : V} (h : DefKAt K x q st f D) (k : PySem.W.keepIn K (.ref f) = true) (kd : PySem.W.nsIn K D n = some (some v)) (r : RelV y v) :
    ∃ fd, Fun K x q st f fd ∧ FunD K x q (defArgs st) (defBody st) (defScope st) [] [(n, y)] f fd := by
  obtain ⟨oc, od, doc, pm, an, cdv, ct, osl, l, c⟩ := h
  refine ⟨_, fun_mk l c k, ⟨⟨oc, od, .none, .ref D, doc, pm, an, cdv, ct, osl, rfl, l, c, .inl ⟨rfl, rfl⟩, .inr ⟨D, rfl, fun z hz => ?_⟩⟩, k⟩⟩
  rw [List.mem_singleton.mp hz]
  exact ⟨v, kd, r⟩
theorem dfl_is_over {K : PySem.W.Frag} {f : Addr} {fd : FuncData} (F : FunD K "is_over" "is_over" (defArgs s_is_over) (defBody s_is_over) (defScope s_is_over) [] [(("modes" : Str), V.bl true)] f fd) : ∃ ds, Vals [V.bl true] ds ∧ Binds K fd ["network", "base", "sites", "modes"] ds :=
  F.binds0 (ps := ["network", "base", "sites", "modes"]) 3 (by simp) rfl fun D doc pm an cdv ct us ks h1 h2 => match us, ks, h1, h2 with
    | [a0, a1, a2], [m], _, _ => ⟨_, _, _, _, _, _, rfl, rfl, rfl⟩
theorem all_mk {l : PySem.W.OpenLaw} {w : World} {K : PySem.W.Frag} {h : Heap} {mg : Str → Option Value} {fa : Addr} (X : K.In h)
    (G : h.Ns mainGlobals mg) (hfa : mg "law" = some (.ref fa))
    {f_is_integer f_is_number f_is_below f_is_sequence f_is_tuple_of f_is_mode f_are_neighbours f_made_view f_checked_modes f_linked_sites f_can_link f_check_copies f_is_turn f_turned_over f_cover f_shifted f_is_over f_near_sites f__law_draw f__law_any f__law_of f__law_links f__law_network f__law_turn f__law_due f__law_below f__law_refused f__law_bad_turn f__law_refusals_right f_law D_is_over c_Network f_Network_init f_Network_eq f_Network_neighbours f_Network_view c_InvalidNetwork i_InvalidNetwork c_InvalidView i_InvalidView c_InvalidQuestion i_InvalidQuestion c_Refused i_Refused cc tb cn : Addr} {t_MOST_MODES t_MOST_NEIGHBOURS t_MOST_COPIES : Tok}
    (a_InvalidNetwork : PySem.W.nsIn K mainGlobals "InvalidNetwork" = some (some (.ref c_InvalidNetwork)))
    (i__InvalidNetwork : PySem.W.findIn K (.ref c_InvalidNetwork) "__init__" = some (some (.ref i_InvalidNetwork)))
    (ok_InvalidNetwork : okE K c_InvalidNetwork i_InvalidNetwork c_InvalidNetwork = true)
    (x_InvalidNetwork : ClsAt K c_InvalidNetwork)
    (y_InvalidNetwork : IniAt K "InvalidNetwork.__init__" i_InvalidNetwork)
    (a_InvalidView : PySem.W.nsIn K mainGlobals "InvalidView" = some (some (.ref c_InvalidView)))
    (i__InvalidView : PySem.W.findIn K (.ref c_InvalidView) "__init__" = some (some (.ref i_InvalidView)))
    (ok_InvalidView : okE K c_InvalidView i_InvalidView c_InvalidView = true)
    (x_InvalidView : ClsAt K c_InvalidView)
    (y_InvalidView : IniAt K "InvalidView.__init__" i_InvalidView)
    (a_InvalidQuestion : PySem.W.nsIn K mainGlobals "InvalidQuestion" = some (some (.ref c_InvalidQuestion)))
    (i__InvalidQuestion : PySem.W.findIn K (.ref c_InvalidQuestion) "__init__" = some (some (.ref i_InvalidQuestion)))
    (ok_InvalidQuestion : okE K c_InvalidQuestion i_InvalidQuestion c_InvalidQuestion = true)
    (x_InvalidQuestion : ClsAt K c_InvalidQuestion)
    (y_InvalidQuestion : IniAt K "InvalidQuestion.__init__" i_InvalidQuestion)
    (a_Refused : PySem.W.nsIn K mainGlobals "Refused" = some (some (.ref c_Refused)))
    (i__Refused : PySem.W.findIn K (.ref c_Refused) "__init__" = some (some (.ref i_Refused)))
    (ok_Refused : okE K c_Refused i_Refused c_Refused = true)
    (x_Refused : ClsAt K c_Refused)
    (y_Refused : IniAt K "Refused.__init__" i_Refused)
    (g_MOST_MODES : PySem.W.nsIn K mainGlobals "MOST_MODES" = some (some (.int 4 t_MOST_MODES)))
    (g_MOST_NEIGHBOURS : PySem.W.nsIn K mainGlobals "MOST_NEIGHBOURS" = some (some (.int 4 t_MOST_NEIGHBOURS)))
    (g_MOST_COPIES : PySem.W.nsIn K mainGlobals "MOST_COPIES" = some (some (.int 1000 t_MOST_COPIES)))
    (g_is_integer : PySem.W.nsIn K mainGlobals "is_integer" = some (some (.ref f_is_integer)))
    (e_is_integer : DefAt K "is_integer" "is_integer" s_is_integer f_is_integer)
    (k_is_integer : PySem.W.keepIn K (.ref f_is_integer) = true)
    (g_is_number : PySem.W.nsIn K mainGlobals "is_number" = some (some (.ref f_is_number)))
    (e_is_number : DefAt K "is_number" "is_number" s_is_number f_is_number)
    (k_is_number : PySem.W.keepIn K (.ref f_is_number) = true)
    (g_is_below : PySem.W.nsIn K mainGlobals "is_below" = some (some (.ref f_is_below)))
    (e_is_below : DefAt K "is_below" "is_below" s_is_below f_is_below)
    (k_is_below : PySem.W.keepIn K (.ref f_is_below) = true)
    (g_is_sequence : PySem.W.nsIn K mainGlobals "is_sequence" = some (some (.ref f_is_sequence)))
    (e_is_sequence : DefAt K "is_sequence" "is_sequence" s_is_sequence f_is_sequence)
    (k_is_sequence : PySem.W.keepIn K (.ref f_is_sequence) = true)
    (g_is_tuple_of : PySem.W.nsIn K mainGlobals "is_tuple_of" = some (some (.ref f_is_tuple_of)))
    (e_is_tuple_of : DefAt K "is_tuple_of" "is_tuple_of" s_is_tuple_of f_is_tuple_of)
    (k_is_tuple_of : PySem.W.keepIn K (.ref f_is_tuple_of) = true)
    (g_is_mode : PySem.W.nsIn K mainGlobals "is_mode" = some (some (.ref f_is_mode)))
    (e_is_mode : DefAt K "is_mode" "is_mode" s_is_mode f_is_mode)
    (k_is_mode : PySem.W.keepIn K (.ref f_is_mode) = true)
    (g_are_neighbours : PySem.W.nsIn K mainGlobals "are_neighbours" = some (some (.ref f_are_neighbours)))
    (e_are_neighbours : DefAt K "are_neighbours" "are_neighbours" s_are_neighbours f_are_neighbours)
    (k_are_neighbours : PySem.W.keepIn K (.ref f_are_neighbours) = true)
    (g_made_view : PySem.W.nsIn K mainGlobals "made_view" = some (some (.ref f_made_view)))
    (e_made_view : DefAt K "made_view" "made_view" s_made_view f_made_view)
    (k_made_view : PySem.W.keepIn K (.ref f_made_view) = true)
    (g_checked_modes : PySem.W.nsIn K mainGlobals "checked_modes" = some (some (.ref f_checked_modes)))
    (e_checked_modes : DefAt K "checked_modes" "checked_modes" s_checked_modes f_checked_modes)
    (k_checked_modes : PySem.W.keepIn K (.ref f_checked_modes) = true)
    (g_linked_sites : PySem.W.nsIn K mainGlobals "linked_sites" = some (some (.ref f_linked_sites)))
    (e_linked_sites : DefAt K "linked_sites" "linked_sites" s_linked_sites f_linked_sites)
    (k_linked_sites : PySem.W.keepIn K (.ref f_linked_sites) = true)
    (g_can_link : PySem.W.nsIn K mainGlobals "can_link" = some (some (.ref f_can_link)))
    (e_can_link : DefAt K "can_link" "can_link" s_can_link f_can_link)
    (k_can_link : PySem.W.keepIn K (.ref f_can_link) = true)
    (g_check_copies : PySem.W.nsIn K mainGlobals "check_copies" = some (some (.ref f_check_copies)))
    (e_check_copies : DefAt K "check_copies" "check_copies" s_check_copies f_check_copies)
    (k_check_copies : PySem.W.keepIn K (.ref f_check_copies) = true)
    (g_is_turn : PySem.W.nsIn K mainGlobals "is_turn" = some (some (.ref f_is_turn)))
    (e_is_turn : DefAt K "is_turn" "is_turn" s_is_turn f_is_turn)
    (k_is_turn : PySem.W.keepIn K (.ref f_is_turn) = true)
    (g_turned_over : PySem.W.nsIn K mainGlobals "turned_over" = some (some (.ref f_turned_over)))
    (e_turned_over : DefAt K "turned_over" "turned_over" s_turned_over f_turned_over)
    (k_turned_over : PySem.W.keepIn K (.ref f_turned_over) = true)
    (g_cover : PySem.W.nsIn K mainGlobals "cover" = some (some (.ref f_cover)))
    (e_cover : DefAt K "cover" "cover" s_cover f_cover)
    (k_cover : PySem.W.keepIn K (.ref f_cover) = true)
    (g_shifted : PySem.W.nsIn K mainGlobals "shifted" = some (some (.ref f_shifted)))
    (e_shifted : DefAt K "shifted" "shifted" s_shifted f_shifted)
    (k_shifted : PySem.W.keepIn K (.ref f_shifted) = true)
    (g_is_over : PySem.W.nsIn K mainGlobals "is_over" = some (some (.ref f_is_over)))
    (e_is_over : DefKAt K "is_over" "is_over" s_is_over f_is_over D_is_over)
    (kd_is_over : PySem.W.nsIn K D_is_over "modes" = some (some (.bool true)))
    (k_is_over : PySem.W.keepIn K (.ref f_is_over) = true)
    (g_near_sites : PySem.W.nsIn K mainGlobals "near_sites" = some (some (.ref f_near_sites)))
    (e_near_sites : DefAt K "near_sites" "near_sites" s_near_sites f_near_sites)
    (k_near_sites : PySem.W.keepIn K (.ref f_near_sites) = true)
    (g__law_draw : PySem.W.nsIn K mainGlobals "_law_draw" = some (some (.ref f__law_draw)))
    (e__law_draw : DefAt K "_law_draw" "_law_draw" s__law_draw f__law_draw)
    (k__law_draw : PySem.W.keepIn K (.ref f__law_draw) = true)
    (g__law_any : PySem.W.nsIn K mainGlobals "_law_any" = some (some (.ref f__law_any)))
    (e__law_any : DefAt K "_law_any" "_law_any" s__law_any f__law_any)
    (k__law_any : PySem.W.keepIn K (.ref f__law_any) = true)
    (g__law_of : PySem.W.nsIn K mainGlobals "_law_of" = some (some (.ref f__law_of)))
    (e__law_of : DefAt K "_law_of" "_law_of" s__law_of f__law_of)
    (k__law_of : PySem.W.keepIn K (.ref f__law_of) = true)
    (g__law_links : PySem.W.nsIn K mainGlobals "_law_links" = some (some (.ref f__law_links)))
    (e__law_links : DefAt K "_law_links" "_law_links" s__law_links f__law_links)
    (k__law_links : PySem.W.keepIn K (.ref f__law_links) = true)
    (g__law_network : PySem.W.nsIn K mainGlobals "_law_network" = some (some (.ref f__law_network)))
    (e__law_network : DefAt K "_law_network" "_law_network" s__law_network f__law_network)
    (k__law_network : PySem.W.keepIn K (.ref f__law_network) = true)
    (g__law_turn : PySem.W.nsIn K mainGlobals "_law_turn" = some (some (.ref f__law_turn)))
    (e__law_turn : DefAt K "_law_turn" "_law_turn" s__law_turn f__law_turn)
    (k__law_turn : PySem.W.keepIn K (.ref f__law_turn) = true)
    (g__law_due : PySem.W.nsIn K mainGlobals "_law_due" = some (some (.ref f__law_due)))
    (e__law_due : DefAt K "_law_due" "_law_due" s__law_due f__law_due)
    (k__law_due : PySem.W.keepIn K (.ref f__law_due) = true)
    (g__law_below : PySem.W.nsIn K mainGlobals "_law_below" = some (some (.ref f__law_below)))
    (e__law_below : DefAt K "_law_below" "_law_below" s__law_below f__law_below)
    (k__law_below : PySem.W.keepIn K (.ref f__law_below) = true)
    (g__law_refused : PySem.W.nsIn K mainGlobals "_law_refused" = some (some (.ref f__law_refused)))
    (e__law_refused : DefAt K "_law_refused" "_law_refused" s__law_refused f__law_refused)
    (k__law_refused : PySem.W.keepIn K (.ref f__law_refused) = true)
    (g__law_bad_turn : PySem.W.nsIn K mainGlobals "_law_bad_turn" = some (some (.ref f__law_bad_turn)))
    (e__law_bad_turn : DefAt K "_law_bad_turn" "_law_bad_turn" s__law_bad_turn f__law_bad_turn)
    (k__law_bad_turn : PySem.W.keepIn K (.ref f__law_bad_turn) = true)
    (g__law_refusals_right : PySem.W.nsIn K mainGlobals "_law_refusals_right" = some (some (.ref f__law_refusals_right)))
    (e__law_refusals_right : DefCAt K "_law_refusals_right" s__law_refusals_right f__law_refusals_right cc)
    (k__law_refusals_right : PySem.W.keepIn K (.ref f__law_refusals_right) = true)
    (g_law : PySem.W.nsIn K mainGlobals "law" = some (some (.ref f_law)))
    (e_law : DefAt K "law" "law" s_law f_law)
    (k_law : PySem.W.keepIn K (.ref f_law) = true)
    (g_Network : PySem.W.nsIn K mainGlobals "Network" = some (some (.ref c_Network)))
    (j_Network_init : PySem.W.findIn K (.ref c_Network) "__init__" = some (some (.ref f_Network_init)))
    (j_Network_eq : PySem.W.findIn K (.ref c_Network) "__eq__" = some (some (.ref f_Network_eq)))
    (j_Network_neighbours : PySem.W.findIn K (.ref c_Network) "neighbours" = some (some (.ref f_Network_neighbours)))
    (n__Network_neighbours : PySem.W.isFn K (.ref f_Network_neighbours) = true)
    (j_Network_view : PySem.W.findIn K (.ref c_Network) "view" = some (some (.ref f_Network_view)))
    (n__Network_view : PySem.W.isFn K (.ref f_Network_view) = true)
    (okc_Network : okKC K c_Network f_Network_init f_Network_eq ["modes", "_near", "links"] = true)
    (e_Network_init : DefAt K "__init__" "Network.__init__" s_Network_init f_Network_init)
    (k_Network_init : PySem.W.keepIn K (.ref f_Network_init) = true)
    (e_Network_eq : DefAt K "__eq__" "Network.__eq__" s_Network_eq f_Network_eq)
    (k_Network_eq : PySem.W.keepIn K (.ref f_Network_eq) = true)
    (e_Network_neighbours : DefAt K "neighbours" "Network.neighbours" s_Network_neighbours f_Network_neighbours)
    (k_Network_neighbours : PySem.W.keepIn K (.ref f_Network_neighbours) = true)
    (e_Network_view : DefAt K "view" "Network.view" s_Network_view f_Network_view)
    (k_Network_view : PySem.W.keepIn K (.ref f_Network_view) = true)
    (a_NetError : PySem.W.nsIn K mainGlobals "NetError" = some (some (.ref cn)))
    (rq_ : PySem.W.exmOne K (.ref c_Refused) (.ref c_InvalidQuestion) = some false)
    (z_int : PySem.W.nsIn K mainGlobals "int" = some none)
    (z_bool : PySem.W.nsIn K mainGlobals "bool" = some none)
    (z_abs : PySem.W.nsIn K mainGlobals "abs" = some none)
    (z_len : PySem.W.nsIn K mainGlobals "len" = some none)
    (z_min : PySem.W.nsIn K mainGlobals "min" = some none)
    (z_max : PySem.W.nsIn K mainGlobals "max" = some none)
    (z_sorted : PySem.W.nsIn K mainGlobals "sorted" = some none)
    (z_tuple : PySem.W.nsIn K mainGlobals "tuple" = some none)
    (z_list : PySem.W.nsIn K mainGlobals "list" = some none)
    (z_range : PySem.W.nsIn K mainGlobals "range" = some none)
    (z_repr : PySem.W.nsIn K mainGlobals "repr" = some none)
    (z_isinstance : PySem.W.nsIn K mainGlobals "isinstance" = some none)
    (z_enumerate : PySem.W.nsIn K mainGlobals "enumerate" = some none)
    (z_all : PySem.W.nsIn K mainGlobals "all" = some none)
    (z_zip : PySem.W.nsIn K mainGlobals "zip" = some none)
    : ∃ fd : FuncData, (∀ (s : Shared) (u : Value), BindsTo s fd ⟨[u], []⟩ [("_law_script", u)]) ∧
      ∀ base : Heap, K.In base → base.Ns mainGlobals mg → LamX.TabB base mg cc tb → FnR l.prog w K mg base CX0 (CG 13) fa fd ["_law_script"] (spLaw tb K) := by
  have e := hfa.symm.trans (PySem.W.mg_of X G g_law)
  cases e
  have OK_InvalidNetwork := okE_ok ok_InvalidNetwork
  have EE_InvalidNetwork : PySem.ErrX.ErrTxt K mg "InvalidNetwork" "InvalidNetwork.__init__" c_InvalidNetwork i_InvalidNetwork := err_of OK_InvalidNetwork (PySem.W.mg_of X G a_InvalidNetwork) x_InvalidNetwork y_InvalidNetwork
  have OK_InvalidView := okE_ok ok_InvalidView
  have EE_InvalidView : PySem.ErrX.ErrTxt K mg "InvalidView" "InvalidView.__init__" c_InvalidView i_InvalidView := err_of OK_InvalidView (PySem.W.mg_of X G a_InvalidView) x_InvalidView y_InvalidView
  have OK_InvalidQuestion := okE_ok ok_InvalidQuestion
  have EE_InvalidQuestion : PySem.ErrX.ErrTxt K mg "InvalidQuestion" "InvalidQuestion.__init__" c_InvalidQuestion i_InvalidQuestion := err_of OK_InvalidQuestion (PySem.W.mg_of X G a_InvalidQuestion) x_InvalidQuestion y_InvalidQuestion
  have OK_Refused := okE_ok ok_Refused
  have EE_Refused : PySem.ErrX.ErrTxt K mg "Refused" "Refused.__init__" c_Refused i_Refused := err_of OK_Refused (PySem.W.mg_of X G a_Refused) x_Refused y_Refused
  have KC_Network := okKC_ok okc_Network
  obtain ⟨d_is_integer, _, _, _, _, _, _, _, F_is_integer⟩ := fun_of e_is_integer k_is_integer
  obtain ⟨d_is_number, _, _, _, _, _, _, _, F_is_number⟩ := fun_of e_is_number k_is_number
  obtain ⟨d_is_below, _, _, _, _, _, _, _, F_is_below⟩ := fun_of e_is_below k_is_below
  obtain ⟨d_is_sequence, _, _, _, _, _, _, _, F_is_sequence⟩ := fun_of e_is_sequence k_is_sequence
  obtain ⟨d_is_tuple_of, _, _, _, _, _, _, _, F_is_tuple_of⟩ := fun_of e_is_tuple_of k_is_tuple_of
  obtain ⟨d_is_mode, _, _, _, _, _, _, _, F_is_mode⟩ := fun_of e_is_mode k_is_mode
  obtain ⟨d_are_neighbours, _, _, _, _, _, _, _, F_are_neighbours⟩ := fun_of e_are_neighbours k_are_neighbours
  obtain ⟨d_made_view, _, _, _, _, _, _, _, F_made_view⟩ := fun_of e_made_view k_made_view
  obtain ⟨d_checked_modes, _, _, _, _, _, _, _, F_checked_modes⟩ := fun_of e_checked_modes k_checked_modes
  obtain ⟨d_linked_sites, _, _, _, _, _, _, _, F_linked_sites⟩ := fun_of e_linked_sites k_linked_sites
  obtain ⟨d_can_link, _, _, _, _, _, _, _, F_can_link⟩ := fun_of e_can_link k_can_link
  obtain ⟨d_check_copies, _, _, _, _, _, _, _, F_check_copies⟩ := fun_of e_check_copies k_check_copies
  obtain ⟨d_is_turn, _, _, _, _, _, _, _, F_is_turn⟩ := fun_of e_is_turn k_is_turn
  obtain ⟨d_turned_over, _, _, _, _, _, _, _, F_turned_over⟩ := fun_of e_turned_over k_turned_over
  obtain ⟨d_cover, _, _, _, _, _, _, _, F_cover⟩ := fun_of e_cover k_cover
  obtain ⟨d_shifted, _, _, _, _, _, _, _, F_shifted⟩ := fun_of e_shifted k_shifted
  obtain ⟨d_is_over, F_is_over, FD_is_over⟩ := funK_of (y := V.bl true) e_is_over k_is_over kd_is_over rfl
  obtain ⟨d_near_sites, _, _, _, _, _, _, _, F_near_sites⟩ := fun_of e_near_sites k_near_sites
  obtain ⟨d__law_draw, _, _, _, _, _, _, _, F__law_draw⟩ := fun_of e__law_draw k__law_draw
  obtain ⟨d__law_any, _, _, _, _, _, _, _, F__law_any⟩ := fun_of e__law_any k__law_any
  obtain ⟨d__law_of, _, _, _, _, _, _, _, F__law_of⟩ := fun_of e__law_of k__law_of
  obtain ⟨d__law_links, _, _, _, _, _, _, _, F__law_links⟩ := fun_of e__law_links k__law_links
  obtain ⟨d__law_network, _, _, _, _, _, _, _, F__law_network⟩ := fun_of e__law_network k__law_network
  obtain ⟨d__law_turn, _, _, _, _, _, _, _, F__law_turn⟩ := fun_of e__law_turn k__law_turn
  obtain ⟨d__law_due, _, _, _, _, _, _, _, F__law_due⟩ := fun_of e__law_due k__law_due
  obtain ⟨d__law_below, _, _, _, _, _, _, _, F__law_below⟩ := fun_of e__law_below k__law_below
  obtain ⟨d__law_refused, _, _, _, _, _, _, _, F__law_refused⟩ := fun_of e__law_refused k__law_refused
  obtain ⟨d__law_bad_turn, _, _, _, _, _, _, _, F__law_bad_turn⟩ := fun_of e__law_bad_turn k__law_bad_turn
  obtain ⟨d__law_refusals_right, DC__law_refusals_right, F__law_refusals_right⟩ := defC_of e__law_refusals_right k__law_refusals_right
  obtain ⟨d_law, u1, u2, u3, u4, u5, u6, eu, F_law⟩ := fun_of e_law k_law
  obtain ⟨d_Network_init, _, _, _, _, _, _, _, F_Network_init⟩ := fun_of e_Network_init k_Network_init
  obtain ⟨d_Network_eq, _, _, _, _, _, _, _, F_Network_eq⟩ := fun_of e_Network_eq k_Network_eq
  obtain ⟨d_Network_neighbours, _, _, _, _, _, _, _, F_Network_neighbours⟩ := fun_of e_Network_neighbours k_Network_neighbours
  obtain ⟨d_Network_view, _, _, _, _, _, _, _, F_Network_view⟩ := fun_of e_Network_view k_Network_view
  let T : TX K mg := {
    f_is_integer := f_is_integer, d_is_integer := d_is_integer, F_is_integer := F_is_integer, m_is_integer := PySem.W.mg_of X G g_is_integer,
    f_is_number := f_is_number, d_is_number := d_is_number, F_is_number := F_is_number, m_is_number := PySem.W.mg_of X G g_is_number,
    f_is_below := f_is_below, d_is_below := d_is_below, F_is_below := F_is_below, m_is_below := PySem.W.mg_of X G g_is_below,
    f_is_sequence := f_is_sequence, d_is_sequence := d_is_sequence, F_is_sequence := F_is_sequence, m_is_sequence := PySem.W.mg_of X G g_is_sequence,
    f_is_tuple_of := f_is_tuple_of, d_is_tuple_of := d_is_tuple_of, F_is_tuple_of := F_is_tuple_of, m_is_tuple_of := PySem.W.mg_of X G g_is_tuple_of,
    f_is_mode := f_is_mode, d_is_mode := d_is_mode, F_is_mode := F_is_mode, m_is_mode := PySem.W.mg_of X G g_is_mode,
    f_are_neighbours := f_are_neighbours, d_are_neighbours := d_are_neighbours, F_are_neighbours := F_are_neighbours, m_are_neighbours := PySem.W.mg_of X G g_are_neighbours,
    f_made_view := f_made_view, d_made_view := d_made_view, F_made_view := F_made_view, m_made_view := PySem.W.mg_of X G g_made_view,
    f_checked_modes := f_checked_modes, d_checked_modes := d_checked_modes, F_checked_modes := F_checked_modes, m_checked_modes := PySem.W.mg_of X G g_checked_modes,
    f_linked_sites := f_linked_sites, d_linked_sites := d_linked_sites, F_linked_sites := F_linked_sites, m_linked_sites := PySem.W.mg_of X G g_linked_sites,
    f_can_link := f_can_link, d_can_link := d_can_link, F_can_link := F_can_link, m_can_link := PySem.W.mg_of X G g_can_link,
    f_check_copies := f_check_copies, d_check_copies := d_check_copies, F_check_copies := F_check_copies, m_check_copies := PySem.W.mg_of X G g_check_copies,
    f_is_turn := f_is_turn, d_is_turn := d_is_turn, F_is_turn := F_is_turn, m_is_turn := PySem.W.mg_of X G g_is_turn,
    f_turned_over := f_turned_over, d_turned_over := d_turned_over, F_turned_over := F_turned_over, m_turned_over := PySem.W.mg_of X G g_turned_over,
    f_cover := f_cover, d_cover := d_cover, F_cover := F_cover, m_cover := PySem.W.mg_of X G g_cover,
    f_shifted := f_shifted, d_shifted := d_shifted, F_shifted := F_shifted, m_shifted := PySem.W.mg_of X G g_shifted,
    f_is_over := f_is_over, d_is_over := d_is_over, F_is_over := F_is_over, m_is_over := PySem.W.mg_of X G g_is_over,
    f_near_sites := f_near_sites, d_near_sites := d_near_sites, F_near_sites := F_near_sites, m_near_sites := PySem.W.mg_of X G g_near_sites,
    f__law_draw := f__law_draw, d__law_draw := d__law_draw, F__law_draw := F__law_draw, m__law_draw := PySem.W.mg_of X G g__law_draw,
    f__law_any := f__law_any, d__law_any := d__law_any, F__law_any := F__law_any, m__law_any := PySem.W.mg_of X G g__law_any,
    f__law_of := f__law_of, d__law_of := d__law_of, F__law_of := F__law_of, m__law_of := PySem.W.mg_of X G g__law_of,
    f__law_links := f__law_links, d__law_links := d__law_links, F__law_links := F__law_links, m__law_links := PySem.W.mg_of X G g__law_links,
    f__law_network := f__law_network, d__law_network := d__law_network, F__law_network := F__law_network, m__law_network := PySem.W.mg_of X G g__law_network,
    f__law_turn := f__law_turn, d__law_turn := d__law_turn, F__law_turn := F__law_turn, m__law_turn := PySem.W.mg_of X G g__law_turn,
    f__law_due := f__law_due, d__law_due := d__law_due, F__law_due := F__law_due, m__law_due := PySem.W.mg_of X G g__law_due,
    f__law_below := f__law_below, d__law_below := d__law_below, F__law_below := F__law_below, m__law_below := PySem.W.mg_of X G g__law_below,
    f__law_refused := f__law_refused, d__law_refused := d__law_refused, F__law_refused := F__law_refused, m__law_refused := PySem.W.mg_of X G g__law_refused,
    f__law_bad_turn := f__law_bad_turn, d__law_bad_turn := d__law_bad_turn, F__law_bad_turn := F__law_bad_turn, m__law_bad_turn := PySem.W.mg_of X G g__law_bad_turn,
    f__law_refusals_right := f__law_refusals_right, d__law_refusals_right := d__law_refusals_right, F__law_refusals_right := F__law_refusals_right, m__law_refusals_right := PySem.W.mg_of X G g__law_refusals_right,
    f_law := fa, d_law := d_law, F_law := F_law, m_law := PySem.W.mg_of X G g_law,
    B_is_over := dfl_is_over FD_is_over,
    n_int := PySem.W.mg_none_of X G z_int,
    n_bool := PySem.W.mg_none_of X G z_bool,
    n_abs := PySem.W.mg_none_of X G z_abs,
    n_len := PySem.W.mg_none_of X G z_len,
    n_min := PySem.W.mg_none_of X G z_min,
    n_max := PySem.W.mg_none_of X G z_max,
    n_sorted := PySem.W.mg_none_of X G z_sorted,
    n_tuple := PySem.W.mg_none_of X G z_tuple,
    n_list := PySem.W.mg_none_of X G z_list,
    n_range := PySem.W.mg_none_of X G z_range,
    n_repr := PySem.W.mg_none_of X G z_repr,
    n_isinstance := PySem.W.mg_none_of X G z_isinstance,
    n_enumerate := PySem.W.mg_none_of X G z_enumerate,
    n_all := PySem.W.mg_none_of X G z_all,
    n_zip := PySem.W.mg_none_of X G z_zip,
    t_MOST_MODES := t_MOST_MODES, m_MOST_MODES := PySem.W.mg_of X G g_MOST_MODES,
    t_MOST_NEIGHBOURS := t_MOST_NEIGHBOURS, m_MOST_NEIGHBOURS := PySem.W.mg_of X G g_MOST_NEIGHBOURS,
    t_MOST_COPIES := t_MOST_COPIES, m_MOST_COPIES := PySem.W.mg_of X G g_MOST_COPIES,
    c_InvalidNetwork := c_InvalidNetwork, i_InvalidNetwork := i_InvalidNetwork, E_InvalidNetwork := EE_InvalidNetwork,
    c_InvalidView := c_InvalidView, i_InvalidView := i_InvalidView, E_InvalidView := EE_InvalidView,
    c_InvalidQuestion := c_InvalidQuestion, i_InvalidQuestion := i_InvalidQuestion, E_InvalidQuestion := EE_InvalidQuestion,
    c_Refused := c_Refused, i_Refused := i_Refused, E_Refused := EE_Refused,
    c_Network := c_Network, m_Network := PySem.W.mg_of X G g_Network, C_Network := KC_Network.cls,
    A_Network_modes := KC_Network.no "modes" (by decide),
    A_Network__near := KC_Network.no "_near" (by decide),
    A_Network_links := KC_Network.no "links" (by decide),
    f_Network_init := f_Network_init, d_Network_init := d_Network_init, F_Network_init := F_Network_init,
    f_Network_eq := f_Network_eq, d_Network_eq := d_Network_eq, F_Network_eq := F_Network_eq,
    f_Network_neighbours := f_Network_neighbours, d_Network_neighbours := d_Network_neighbours, F_Network_neighbours := F_Network_neighbours,
    H_Network_neighbours := ⟨j_Network_neighbours, n__Network_neighbours, k_Network_neighbours⟩,
    f_Network_view := f_Network_view, d_Network_view := d_Network_view, F_Network_view := F_Network_view,
    H_Network_view := ⟨j_Network_view, n__Network_view, k_Network_view⟩,
    M_Network := KC_Network.mks, I_Network := KC_Network.isi, O_Network := KC_Network.own }
  refine ⟨d_law, fun s v => by rw [eu]; exact .of_eq rfl, fun base _ _ B => ?_⟩
  have IR : IsR K c_InvalidQuestion c_Refused := ⟨OK_InvalidQuestion.xf, OK_Refused.xf, OK_InvalidQuestion.no, OK_Refused.no, OK_InvalidQuestion.te, rq_, OK_Refused.te⟩
  exact G_law (P := l.prog) (w := w) (base := base) T B IR (PySem.W.mg_of X G a_NetError) DC__law_refusals_right
end K71

open PySem PySem.W PyProof.Rows
set_option maxRecDepth 100000 in
set_option maxHeartbeats 0 in
theorem PySem.Challenge.cw_handalong_k71_covers_by_turns_holds : PySem.Challenge.rw_handalong_k71_covers_by_turns.Holds := by
  w_on; o_law; k_head; (case hw => w_witness2)
  k_fill
  refine KX.walk_ofT (l := PySem.Challenge.rw_handalong_k71_covers_by_turns) (n := 63) (k := 13) (x := "_law_script") (CX := L2.CX0) (c := ?c) (t := 332) (sp := K71.spLaw 332)
    rfl (by decide) rfl ⟨rfl, by decide, by decide⟩ (fun w h Y => km_in_of Y) (fun w h Y => km_tabs_of Y 332 (List.mem_singleton.mpr rfl)) ?hcd ?nt ?F (fun _ H a ns hl ht hS => ⟨a, ns, rfl, hS, ht, fun _ => rfl⟩) fun _ _ _ _ z => z
  case F =>
    intro w mg fa h Y G hmg
    refine' K71.all_mk Y G hmg ?a_InvalidNetwork ?i__InvalidNetwork ?ok_InvalidNetwork ?x_InvalidNetwork ?y_InvalidNetwork ?a_InvalidView ?i__InvalidView ?ok_InvalidView ?x_InvalidView ?y_InvalidView ?a_InvalidQuestion ?i__InvalidQuestion ?ok_InvalidQuestion ?x_InvalidQuestion ?y_InvalidQuestion ?a_Refused ?i__Refused ?ok_Refused ?x_Refused ?y_Refused ?g_MOST_MODES ?g_MOST_NEIGHBOURS ?g_MOST_COPIES ?g_is_integer ?e_is_integer ?k_is_integer ?g_is_number ?e_is_number ?k_is_number ?g_is_below ?e_is_below ?k_is_below ?g_is_sequence ?e_is_sequence ?k_is_sequence ?g_is_tuple_of ?e_is_tuple_of ?k_is_tuple_of ?g_is_mode ?e_is_mode ?k_is_mode ?g_are_neighbours ?e_are_neighbours ?k_are_neighbours ?g_made_view ?e_made_view ?k_made_view ?g_checked_modes ?e_checked_modes ?k_checked_modes ?g_linked_sites ?e_linked_sites ?k_linked_sites ?g_can_link ?e_can_link ?k_can_link ?g_check_copies ?e_check_copies ?k_check_copies ?g_is_turn ?e_is_turn ?k_is_turn ?g_turned_over ?e_turned_over ?k_turned_over ?g_cover ?e_cover ?k_cover ?g_shifted ?e_shifted ?k_shifted ?g_is_over ?e_is_over ?kd_is_over ?k_is_over ?g_near_sites ?e_near_sites ?k_near_sites ?g__law_draw ?e__law_draw ?k__law_draw ?g__law_any ?e__law_any ?k__law_any ?g__law_of ?e__law_of ?k__law_of ?g__law_links ?e__law_links ?k__law_links ?g__law_network ?e__law_network ?k__law_network ?g__law_turn ?e__law_turn ?k__law_turn ?g__law_due ?e__law_due ?k__law_due ?g__law_below ?e__law_below ?k__law_below ?g__law_refused ?e__law_refused ?k__law_refused ?g__law_bad_turn ?e__law_bad_turn ?k__law_bad_turn ?g__law_refusals_right ?e__law_refusals_right ?k__law_refusals_right ?g_law ?e_law ?k_law ?g_Network ?j_Network_init ?j_Network_eq ?j_Network_neighbours ?n__Network_neighbours ?j_Network_view ?n__Network_view ?okc_Network ?e_Network_init ?k_Network_init ?e_Network_eq ?k_Network_eq ?e_Network_neighbours ?k_Network_neighbours ?e_Network_view ?k_Network_view ?a_NetError ?rq_ ?z_int ?z_bool ?z_abs ?z_len ?z_min ?z_max ?z_sorted ?z_tuple ?z_list ?z_range ?z_repr ?z_isinstance ?z_enumerate ?z_all ?z_zip
    (case a_InvalidNetwork => k_is)
    (case i__InvalidNetwork => k_is)
    (case ok_InvalidNetwork => kernel_rfl)
    (case x_InvalidNetwork => (refine' ⟨_, _, _, _, _, _, _, _, _, _, _, _, _, _, _, ?h1, ?h2⟩; (case h1 => rfl); (case h2 => decide +kernel)))
    (case y_InvalidNetwork => (refine' ⟨_, _, _, _, _, _, _, _, _, _, _, _, _, _, ?h1, ?h2⟩; (case h1 => rfl); (case h2 => k_is)))
    (case a_InvalidView => k_is)
    (case i__InvalidView => k_is)
    (case ok_InvalidView => kernel_rfl)
    (case x_InvalidView => (refine' ⟨_, _, _, _, _, _, _, _, _, _, _, _, _, _, _, ?h1, ?h2⟩; (case h1 => rfl); (case h2 => decide +kernel)))
    (case y_InvalidView => (refine' ⟨_, _, _, _, _, _, _, _, _, _, _, _, _, _, ?h1, ?h2⟩; (case h1 => rfl); (case h2 => k_is)))
    (case a_InvalidQuestion => k_is)
    (case i__InvalidQuestion => k_is)
    (case ok_InvalidQuestion => kernel_rfl)
    (case x_InvalidQuestion => (refine' ⟨_, _, _, _, _, _, _, _, _, _, _, _, _, _, _, ?h1, ?h2⟩; (case h1 => rfl); (case h2 => decide +kernel)))
    (case y_InvalidQuestion => (refine' ⟨_, _, _, _, _, _, _, _, _, _, _, _, _, _, ?h1, ?h2⟩; (case h1 => rfl); (case h2 => k_is)))
    (case a_Refused => k_is)
    (case i__Refused => k_is)
    (case ok_Refused => kernel_rfl)
    (case x_Refused => (refine' ⟨_, _, _, _, _, _, _, _, _, _, _, _, _, _, _, ?h1, ?h2⟩; (case h1 => rfl); (case h2 => decide +kernel)))
    (case y_Refused => (refine' ⟨_, _, _, _, _, _, _, _, _, _, _, _, _, _, ?h1, ?h2⟩; (case h1 => rfl); (case h2 => k_is)))
    (case g_MOST_MODES => k_is)
    (case g_MOST_NEIGHBOURS => k_is)
    (case g_MOST_COPIES => k_is)
    (case g_is_integer => k_is)
    (case e_is_integer => (refine' ⟨_, _, _, _, _, _, _, _, _, ?h1, ?h2⟩; (case h1 => rfl); (case h2 => k_is)))
    (case k_is_integer => k_is)
    (case g_is_number => k_is)
    (case e_is_number => (refine' ⟨_, _, _, _, _, _, _, _, _, ?h1, ?h2⟩; (case h1 => rfl); (case h2 => k_is)))
    (case k_is_number => k_is)
    (case g_is_below => k_is)
    (case e_is_below => (refine' ⟨_, _, _, _, _, _, _, _, _, ?h1, ?h2⟩; (case h1 => rfl); (case h2 => k_is)))
    (case k_is_below => k_is)
    (case g_is_sequence => k_is)
    (case e_is_sequence => (refine' ⟨_, _, _, _, _, _, _, _, _, ?h1, ?h2⟩; (case h1 => rfl); (case h2 => k_is)))
    (case k_is_sequence => k_is)
    (case g_is_tuple_of => k_is)
    (case e_is_tuple_of => (refine' ⟨_, _, _, _, _, _, _, _, _, ?h1, ?h2⟩; (case h1 => rfl); (case h2 => k_is)))
    (case k_is_tuple_of => k_is)
    (case g_is_mode => k_is)
    (case e_is_mode => (refine' ⟨_, _, _, _, _, _, _, _, _, ?h1, ?h2⟩; (case h1 => rfl); (case h2 => k_is)))
    (case k_is_mode => k_is)
    (case g_are_neighbours => k_is)
    (case e_are_neighbours => (refine' ⟨_, _, _, _, _, _, _, _, _, ?h1, ?h2⟩; (case h1 => rfl); (case h2 => k_is)))
    (case k_are_neighbours => k_is)
    (case g_made_view => k_is)
    (case e_made_view => (refine' ⟨_, _, _, _, _, _, _, _, _, ?h1, ?h2⟩; (case h1 => rfl); (case h2 => k_is)))
    (case k_made_view => k_is)
    (case g_checked_modes => k_is)
    (case e_checked_modes => (refine' ⟨_, _, _, _, _, _, _, _, _, ?h1, ?h2⟩; (case h1 => rfl); (case h2 => k_is)))
    (case k_checked_modes => k_is)
    (case g_linked_sites => k_is)
    (case e_linked_sites => (refine' ⟨_, _, _, _, _, _, _, _, _, ?h1, ?h2⟩; (case h1 => rfl); (case h2 => k_is)))
    (case k_linked_sites => k_is)
    (case g_can_link => k_is)
    (case e_can_link => (refine' ⟨_, _, _, _, _, _, _, _, _, ?h1, ?h2⟩; (case h1 => rfl); (case h2 => k_is)))
    (case k_can_link => k_is)
    (case g_check_copies => k_is)
    (case e_check_copies => (refine' ⟨_, _, _, _, _, _, _, _, _, ?h1, ?h2⟩; (case h1 => rfl); (case h2 => k_is)))
    (case k_check_copies => k_is)
    (case g_is_turn => k_is)
    (case e_is_turn => (refine' ⟨_, _, _, _, _, _, _, _, _, ?h1, ?h2⟩; (case h1 => rfl); (case h2 => k_is)))
    (case k_is_turn => k_is)
    (case g_turned_over => k_is)
    (case e_turned_over => (refine' ⟨_, _, _, _, _, _, _, _, _, ?h1, ?h2⟩; (case h1 => rfl); (case h2 => k_is)))
    (case k_turned_over => k_is)
    (case g_cover => k_is)
    (case e_cover => (refine' ⟨_, _, _, _, _, _, _, _, _, ?h1, ?h2⟩; (case h1 => rfl); (case h2 => k_is)))
    (case k_cover => k_is)
    (case g_shifted => k_is)
    (case e_shifted => (refine' ⟨_, _, _, _, _, _, _, _, _, ?h1, ?h2⟩; (case h1 => rfl); (case h2 => k_is)))
    (case k_shifted => k_is)
    (case g_is_over => k_is)
    (case e_is_over => (refine' ⟨_, _, _, _, _, _, _, _, ?h1, ?h2⟩; (case h1 => rfl); (case h2 => k_is)))
    (case kd_is_over => k_is)
    (case k_is_over => k_is)
    (case g_near_sites => k_is)
    (case e_near_sites => (refine' ⟨_, _, _, _, _, _, _, _, _, ?h1, ?h2⟩; (case h1 => rfl); (case h2 => k_is)))
    (case k_near_sites => k_is)
    (case g__law_draw => k_is)
    (case e__law_draw => (refine' ⟨_, _, _, _, _, _, _, _, _, ?h1, ?h2⟩; (case h1 => rfl); (case h2 => k_is)))
    (case k__law_draw => k_is)
    (case g__law_any => k_is)
    (case e__law_any => (refine' ⟨_, _, _, _, _, _, _, _, _, ?h1, ?h2⟩; (case h1 => rfl); (case h2 => k_is)))
    (case k__law_any => k_is)
    (case g__law_of => k_is)
    (case e__law_of => (refine' ⟨_, _, _, _, _, _, _, _, _, ?h1, ?h2⟩; (case h1 => rfl); (case h2 => k_is)))
    (case k__law_of => k_is)
    (case g__law_links => k_is)
    (case e__law_links => (refine' ⟨_, _, _, _, _, _, _, _, _, ?h1, ?h2⟩; (case h1 => rfl); (case h2 => k_is)))
    (case k__law_links => k_is)
    (case g__law_network => k_is)
    (case e__law_network => (refine' ⟨_, _, _, _, _, _, _, _, _, ?h1, ?h2⟩; (case h1 => rfl); (case h2 => k_is)))
    (case k__law_network => k_is)
    (case g__law_turn => k_is)
    (case e__law_turn => (refine' ⟨_, _, _, _, _, _, _, _, _, ?h1, ?h2⟩; (case h1 => rfl); (case h2 => k_is)))
    (case k__law_turn => k_is)
    (case g__law_due => k_is)
    (case e__law_due => (refine' ⟨_, _, _, _, _, _, _, _, _, ?h1, ?h2⟩; (case h1 => rfl); (case h2 => k_is)))
    (case k__law_due => k_is)
    (case g__law_below => k_is)
    (case e__law_below => (refine' ⟨_, _, _, _, _, _, _, _, _, ?h1, ?h2⟩; (case h1 => rfl); (case h2 => k_is)))
    (case k__law_below => k_is)
    (case g__law_refused => k_is)
    (case e__law_refused => (refine' ⟨_, _, _, _, _, _, _, _, _, ?h1, ?h2⟩; (case h1 => rfl); (case h2 => k_is)))
    (case k__law_refused => k_is)
    (case g__law_bad_turn => k_is)
    (case e__law_bad_turn => (refine' ⟨_, _, _, _, _, _, _, _, _, ?h1, ?h2⟩; (case h1 => rfl); (case h2 => k_is)))
    (case k__law_bad_turn => k_is)
    (case g__law_refusals_right => k_is)
    (case e__law_refusals_right => (refine' ⟨_, _, _, _, _, _, _, _, ?h1, ?h2⟩; (case h1 => rfl); (case h2 => k_is)))
    (case k__law_refusals_right => k_is)
    (case g_law => k_is)
    (case e_law => (refine' ⟨_, _, _, _, _, _, _, _, _, ?h1, ?h2⟩; (case h1 => rfl); (case h2 => k_is)))
    (case k_law => k_is)
    (case g_Network => k_is)
    (case j_Network_init => k_is)
    (case j_Network_eq => k_is)
    (case j_Network_neighbours => k_is)
    (case n__Network_neighbours => k_is)
    (case j_Network_view => k_is)
    (case n__Network_view => k_is)
    (case okc_Network => kernel_rfl)
    (case e_Network_init => (refine' ⟨_, _, _, _, _, _, _, _, _, ?h1, ?h2⟩; (case h1 => rfl); (case h2 => k_is)))
    (case k_Network_init => k_is)
    (case e_Network_eq => (refine' ⟨_, _, _, _, _, _, _, _, _, ?h1, ?h2⟩; (case h1 => rfl); (case h2 => k_is)))
    (case k_Network_eq => k_is)
    (case e_Network_neighbours => (refine' ⟨_, _, _, _, _, _, _, _, _, ?h1, ?h2⟩; (case h1 => rfl); (case h2 => k_is)))
    (case k_Network_neighbours => k_is)
    (case e_Network_view => (refine' ⟨_, _, _, _, _, _, _, _, _, ?h1, ?h2⟩; (case h1 => rfl); (case h2 => k_is)))
    (case k_Network_view => k_is)
    (case a_NetError => k_is)
    (case rq_ => kernel_rfl)
    (case z_int => k_is)
    (case z_bool => k_is)
    (case z_abs => k_is)
    (case z_len => k_is)
    (case z_min => k_is)
    (case z_max => k_is)
    (case z_sorted => k_is)
    (case z_tuple => k_is)
    (case z_list => k_is)
    (case z_range => k_is)
    (case z_repr => k_is)
    (case z_isinstance => k_is)
    (case z_enumerate => k_is)
    (case z_all => k_is)
    (case z_zip => k_is)
  case hcd => intro w; kernel_rfl
  case nt => intro w; kernel_rfl
