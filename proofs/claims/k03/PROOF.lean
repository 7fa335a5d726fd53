import PyProof.Rows.All
import Wide.All
import OpenK.AllK
import Wide.FinOn
import HandS.ForExc
import HandS.HotCalls
import HandS.ExcField
import HandS.ExcIs
import HandS.RaiseMore
import HandS.Comp
import PyProof.ReprRoads
import KE.KExcIs
import HandS.IsInst
import HandS.Defaults
import HandS.Gcd
import HandS.Wide
import HandS.Style
import HandS.Flow
import HandS.Lambda
import HandS.TupLe
import HandS.TupAny
import HandS.SetFor
import HandS.Conv
import HandS.SlotsOwn
import PyProof.InstNe
import KE.GoesEnum
import HandS.Iter
import HandS.Walk
import HandS.Deep
import HandS.Sort
import HandS.SortRule
import HandS.MakeKw
import HandS.MakeKwOnly
import HandS.TryOnly
import KE.SortData
import KE.DatumOrd
import HandS.TupMul
import HandS.SortKw
import HandS.ListItems
import HandS.DictTup
import KE.KTupSum
import HandS.Small
import HandS.TryMany
import HandS.Zip
import KE.GoesZip
import KE.GoesMore
import KE.KeyNested
import KE.KDictKeyed
import HandS.Dict
import HandS.DictComp
import KE.KDictSum
import HandS.Star
import PySem.Challenge.RW_handalong_k03_policies_and_their_scores
import HandS.CallLocal
import KE.KExcTry
import KE.KExcStr
set_option Elab.async false
set_option linter.all false
set_option maxRecDepth 100000
set_option maxHeartbeats 4000000
namespace KX
open PySem PySem.Spec PyProof.Rows L2
/-! repr of data -/
def rRepr (K : PySem.W.Frag) : List V → Hp → VK → Prop := fun xs H Q =>
  ∃ x d, xs = [x] ∧ Dp K H x d ∧ d.showable = true ∧ d.hasDict = false ∧ d.depth ≤ 64 ∧
    d.shown.length ≤ sizeLine ∧ Q (.str d.shown) H
theorem cr_repr {X : Cx} (hg : X.A.guards = some []) (hu : X.A.units + 66 < cLine) :
    CallR X (.builtin "repr") (rRepr X.K) := by
  intro pins s σ H xs us Q I r h
  obtain ⟨x, d, rfl, hd, hs, hn, h64, hz, q⟩ := h
  cases r with
  | cons rx rn =>
    cases rn
    rename_i u
    obtain ⟨as, rd⟩ := Dp.reads I d x u hd rx
    have hsm : d.hasDict = true → sysModules ∉ as := fun z => by rw [hn] at z; cases z
    have out : ∀ (h' : Heap) (tk : Nat) (t : Tok), (∀ b o, s.heap.get? b = some o → h'.get? b = some o) →
        EP X pins σ Q (.str d.shown t) { s with heap := h', toks := tk } := fun h' tk t k =>
      ⟨.str d.shown, H, I.kept k, ⟨t, rfl⟩, q⟩
    cases rd with
    | none => exact P.repr_of_none (out s.heap _ _ fun _ _ e => e)
    | bool b => exact P.repr_of_bool (by simpa only [PyData.shown] using out s.heap (s.toks + 1) s.toks fun _ _ e => e)
    | int i t =>
      exact P.repr_of_int (by simpa [PyData.showable] using hs)
        (by simpa only [PyData.shown] using out s.heap (s.toks + 1) s.toks fun _ _ e => e)
    | str z t =>
      exact P.repr_of_str (by simpa only [PyData.shown] using out s.heap (s.toks + 1) s.toks fun _ _ e => e)
        (by simpa only [PyData.shown] using hz)
    | list h1 h2 h3 h4 =>
      exact repr_of_reads' (.list h1 h2 h3 h4) hs hsm hg (by omega) (fun _ _ e => e)
        (fun h' u tk k => out h' tk u k) hz
    | tuple h1 h2 h3 h4 =>
      exact repr_of_reads' (.tuple h1 h2 h3 h4) hs hsm hg (by omega) (fun _ _ e => e)
        (fun h' u tk k => out h' tk u k) hz
    | dict h1 h2 h3 h4 h5 => cases hn
end KX

namespace PySem
namespace ErrX
open PySem.W PySem.Calls PyProof.Rows PySem.HandSPX
/-! ### the text of __init__ -/
def iA (p1 p2 : Pos) : Arguments := { posonlyargs := [], args := [{ arg := "self", annotation := none, pos := p1 }, { arg := "at", annotation := none, pos := p2 }], vararg := none, kwonlyargs := [], kw_defaults := [], kwarg := none, defaults := [] }
def iB (q1 q2 q3 q4 : Pos) : List Stmt := [.Assign [.Attribute (.Name "self" q1) "at" q2] (.Name "at" q3) q4]
def iS : Scope := { kind := .function, names := [(PySem.Str.ofString "self", .local), (PySem.Str.ofString "at", .local)], isGenerator := false, isCoroutine := false, more := [] }
/-- what the written part says of Low, at C, and of its __init__, at fI -/
structure ErrTxt (K : Frag) (mg : Str → Option Value) (en qn : Str) (C fI : Addr) : Prop where
  gC : mg en = some (.ref C)
  cls : ∃ nm q N bs bm sn sub ab col dd k0 k1 k2 k3 k5, K.lookup C = some (excClassObj nm q C N bs bm true sn sub ab col dd k0 k1 k2 k3 k5 "ValueError.__new__") ∧ refsVE bm = true
  sa : findIn K (.ref C) "__setattr__" = some (some (.builtin "object.__setattr__"))
  ga : findIn K (.ref C) "__getattribute__" = some (some (.builtin "BaseException.__getattribute__"))
  gg : findIn K (.ref C) "__getattr__" = some none
  noN : findIn K (.ref C) "at" = some none
  iC : findIn K (.ref C) "__init__" = some (some (.ref fI))
  tC : typeIn K (.ref fI) = some (.type "function")
  kC : keepIn K (.ref C) = true
  exC : subIn K (.ref C) (.type "BaseException") = some true
  tyC : typeIn K (.ref C) = some (.type "type")
  hdC : hasDictIn K C = true
  te : exmOne K (.ref C) (.ref C) = some true
  fn : ∃ (oc : Value) (od : Option Addr) (doc pm : Value) (an : Option Addr) (cdv ct : Value) (osl : Array (Option Value)) (p1 p2 q1 q2 q3 q4 : Pos),
    K.lookup fI = some ⟨oc, od, .func (fnOf "__init__" qn (iA p1 p2) (iB q1 q2 q3 q4) iS .none .none doc pm an cdv ct), osl⟩ ∧ codeIn K cdv qn = true
theorem one_size (v : Value) : [v].length ≤ sizeLine := by
  rw [sizeLine_eq]
  exact (by decide : 1 ≤ 16777216)
theorem kept_but {K : Frag} {h h' : Heap} {x : Addr} (X : K.In h) (hx : K.lookup x = none) (k : ∀ b o, b ≠ x → h.get? b = some o → h'.get? b = some o) : K.In h' := fun a o e =>
  k a o (fun z => by rw [z, hx] at e; cases e) (X a o e)
theorem ldC {M : Model} {s : Shared} {name : Str} {scope : Scope} {L a : Addr} {cd : Value} {m : Str → Option Value} {x : Str} {pos : Pos} {v : Value} {Q : Value → Shared → Prop} {A : Around} {E : Value → Shared → Prop} (hn : s.heap.Ns L m) (hv : m x = some v) (h : Q v s)
    (hk : scope.kind = .function := by rfl) (hl : (envOfC name scope L a cd).kindOf x = some .local := by rfl) (hd : (x == ("__debug__" : Str)) = false := by decide) :
    wpAny M A (eval (.Name x pos) (envOfC name scope L a cd)) Q E s := wpAny_Name (wpAny_loadName_local hk hl hn hv h) hd
/-- what __init__ leaves of a fresh exception at x -/
structure InitEnd (h h' : Heap) (x C dx t1 : Addr) (v : Value) : Prop where
  keep : ∀ b o, b ≠ x → h.get? b = some o → h'.get? b = some o
  obj : h'.get? x = some { cls := .ref C, dict := some dx, data := .fields #[.ref t1, .none, .none, .none, .bool false, .none] }
  dbig : h.objs.size ≤ dx
  dne : dx ≠ x
  ns : h'.Ns1 dx (fun y => if y = "at" then some v else none)
/-- a made Low -/
structure OwnMade (h h' : Heap) (e C d : Addr) (v : Value) : Prop where
  keep : ∀ b o, h.get? b = some o → h'.get? b = some o
  new : h.objs.size ≤ e
  obj : ∃ oe vs, h'.get? e = some oe ∧ oe.cls = .ref C ∧ oe.dict = some d ∧ oe.data = .fields vs ∧ vs[1]? = some .none ∧ vs[2]? = some .none
  dbig : h.objs.size ≤ d
  dne : d ≠ e
  ns : h'.Ns1 d (fun y => if y = "at" then some v else none)
section
variable {prog : Program} {w : World} {A : Around} {E : Value → Shared → Prop} {R : Result → Shared → Prop} {s : Shared} {K : Frag} {mg : Str → Option Value} {C fI : Addr} {en qn : Str}
theorem err_init (T : ErrTxt K mg en qn C fI) {x t0 : Addr} {v : Value} (X : K.In s.heap) (hlim : s.heap.NoLimit) (hx : s.heap.get? x = some (excO C t0)) (hnx : K.lookup x = none) (hroom : A.depth < recursionLimit)
    (hq : ∀ h' tk dx, InitEnd s.heap h' x C dx t0 v → R (.ok (.ret .none)) { s with heap := h', toks := tk }) :
    codeAny (model prog w) A (.call (.ref fI) ⟨[.ref x, v], []⟩) R s := by
  obtain ⟨oc, od, doc, pm, an, cdv, ct, osl, p1, p2, q1, q2, q3, q4, ho, hcd⟩ := T.fn
  obtain ⟨nm, q, N, bs, bm, sn, sub, ab, col, dd, k0, k1, k2, k3, k5, hC, hbm⟩ := T.cls
  have hcl : clsIn K C = some { name := nm, bases := bs, mro := .ref C :: bm, ns := N, qualname := q, hasDict := true, slotNames := sn, subclasses := sub, abstract := ab, collection := col, hasDel := false } := by unfold clsIn; rw [hC] <;> rfl
  refine Att.call_fn (binds := [("self", .ref x), ("at", v)]) X hlim ho hcd hroom (BindsTo.of_eq (by first | rfl | with_unfolding_all rfl)) (by first | rfl | decide | with_unfolding_all rfl) (fun s₁ IC => ?_) rfl rfl rfl
  obtain ⟨h₁, tk₁, rfl⟩ := IC.toInCall.same
  have k : ∀ b o, s.heap.get? b = some o → h₁.get? b = some o := IC.toInCall.keep
  have hn := IC.toInCall.ns
  have hxL : s.heap.objs.size ≠ x := Nat.ne_of_gt (Heap.lt_size hx)
  have X₁ : K.In h₁ := X.keeps k
  have hx₁ := k _ _ hx
  -- self.by = by
  show wpAny _ _ (execs _ _) _ _ _
  refine wpAny_execs_cons (plainObj_wpAny_Assign_Attribute ?_)
  refine ldC (v := v) hn (by first | rfl | with_unfolding_all rfl | kernel_rfl) (ldC (v := .ref x) hn (by first | rfl | with_unfolding_all rfl | kernel_rfl) ?_)
  refine set_plain X₁ (ox := excO C t0) (od := none) ⟨hx₁, rfl, rfl, trivial⟩ T.sa ?_
  refine exc_osa X₁ hx₁ hcl (show refsVE (.ref C :: bm) = true from hbm) rfl T.noN (fun h₃ tk₃ dx k₃ dn dne hx₃ hn₃ => ?_)
  show wpAny _ _ (execs _ _) _ _ _
  have z : s.heap.objs.size < h₁.objs.size := hn.lt
  exact wpAny_execs_nil (hq h₃ tk₃ dx ⟨fun b o hb e => k₃ b o hb (k b o e), hx₃, Nat.le_of_lt (Nat.lt_of_lt_of_le z dn), dne, hn₃⟩)
theorem err_made (T : ErrTxt K mg en qn C fI) {v : Value} (X : K.In s.heap) (hlim : s.heap.NoLimit) (hroom : A.depth + 1 < recursionLimit)
    (hq : ∀ h' tk e d, OwnMade s.heap h' e C d v → R (.ok (.ret (.ref e))) { s with heap := h', toks := tk }) :
    codeAny (model prog w) A (.call (.ref C) ⟨[v], []⟩) R s := by
  obtain ⟨nm, q, N, bs, bm, sn, sub, ab, col, dd, k0, k1, k2, k3, k5, hC, hbm⟩ := T.cls
  obtain ⟨hp, g, dr, tk, os⟩ := s
  have k : ∀ b o, hp.get? b = some o → ((hp.push (kdv_tup [v])).push (excO C hp.objs.size)).get? b = some o := fun b o e => Heap.get?_push_of_some _ (Heap.get?_push_of_some _ e)
  have hget : ((hp.push (kdv_tup [v])).push (excO C hp.objs.size)).get? (hp.objs.size + 1) = some (excO C hp.objs.size) := by heap_get
  have hnx : K.lookup (hp.objs.size + 1) = none := by
    cases e : K.lookup (hp.objs.size + 1) with
    | none => rfl
    | some o =>
      have z : hp.get? (hp.objs.size + 1) = some o := X _ _ e
      exact absurd (Nat.lt_of_succ_lt (Heap.lt_size z)) (Nat.lt_irrefl _)
  refine call_own F.excBase_ValueError (fun X => refsVE_contains X bm hbm) (X _ _ hC) (looks_findIn X T.iC) (fun self => bind_fn X self T.tC) (one_size v) ?_
  refine err_init (s := ⟨(hp.push (kdv_tup [v])).push (excO C hp.objs.size), g, dr, tk, os⟩) T (X.keeps k) (hlim.keeps k) hget hnx ?_ fun h' tk' dx ⟨k', hx, dn, dne, hns⟩ => ?_
  · show A.depth + 1 < recursionLimit
    exact hroom
  · have old : ∀ b o, hp.get? b = some o → h'.get? b = some o := fun b o e => k' b o (Nat.ne_of_lt (Nat.lt_succ_of_lt (Heap.lt_size e))) (k b o e)
    have z : hp.objs.size + 1 + 1 ≤ dx := by
      first
        | (simpa only [Heap.size_push] using dn)
        | exact dn
        | (have q := dn; rw [Heap.size_push, Heap.size_push] at q; exact q)
    exact ⟨rfl, hq h' tk' (hp.objs.size + 1) dx ⟨old, Nat.le_succ _, ⟨_, _, hx, rfl, rfl, rfl, rfl, rfl⟩, Nat.le_trans (Nat.le_trans (Nat.le_succ _) (Nat.le_succ _)) z, dne, hns⟩⟩
end
end ErrX
end PySem
namespace KX
open PySem PySem.Spec PyProof.Rows L2
theorem relO_err {v : V} {v' : Value} (r : RelV v v') (f : Str) : RelO (List.lookup f [(("at" : Str), v)]) (if f = "at" then some v' else none) := by
  by_cases hw : f = "at"
  · subst hw
    rw [if_pos rfl]
    have q : List.lookup ("at" : Str) [(("at" : Str), v)] = some v := by simp [List.lookup]
    rw [q]
    exact r
  · rw [if_neg hw]
    have qw : (f == ("at" : Str)) = false := by simpa using hw
    have q2 : List.lookup f [(("at" : Str), v)] = none := by simp [List.lookup, qw]
    rw [q2]
    trivial
section
variable {X : Cx} {C fI : Addr} {en qn : Str}
/-- Low(e) -/
def tMkErr (C : Addr) (ta : TA) : L2.St → Hp → XK → Prop := fun σ H Q => ta σ H fun vs H1 => ∃ v, vs = [v] ∧ ∀ d, H1 d = none → Q (.ref C) (some d) (upd H1 d (.xd [(("at" : Str), v)]))
theorem pmk_err {a : Expr} {ta : TA} {p pos : Pos} {k : Nat} (T : PySem.ErrX.ErrTxt X.K X.mg en qn C fI) (hr : Room k X.A) (ha : PA X [a] ta) (hg : Gl X en := by rfl) (hdb : (en == ("__debug__" : Str)) = false := by decide)
    (he : starEach (a :: []) X.env = (false, eval a X.env) :: starEach [] X.env := by rfl) (hpl : (backTo pos (starEach [] X.env)).any (·.1) = false := by rfl) :
    L2N.PMk X (.Call (.Name en p) [a] [] pos) (tMkErr C ta) := by
  intro pins s σ H Q I h
  refine wpAny_Call_Name_kw (ld_glob I hg T.gC ?_ hdb)
  refine PySem.W.callWith_K (h₀ := X.base) I.ok.mod.kin T.kC (thn (ha.run pos pins s σ H _ I h) fun us s1 hh => ?_) he hpl
  obtain ⟨vs, H1, I1, r1, v, ev, q1⟩ := hh
  subst ev
  refine ⟨I1.kIn, ?_⟩
  cases r1 with
  | cons rv rn =>
    rename_i v' us'
    cases rn
    show wpAny _ _ (call (.ref C) [v']) _ _ _
    have hlim := I1.nolimit
    obtain ⟨hp, g, dr, tk, os⟩ := s1
    refine wpAny_call (PySem.ErrX.err_made T I1.kIn hlim (by have := hr.dp; omega) fun h' tk' e d M => ?_)
    show L2N.MkP X pins σ Q (.ref e) ⟨h', g, dr, tk', os⟩
    obtain ⟨oe, fv, hoe, hc, hd, hdat, h1, h2⟩ := M.obj
    have hns := M.ns
    obtain ⟨G', g1, g2⟩ := restrict h' fun b => decide (b ≠ e)
    have gk : ∀ b, b ≠ e → G'.get? b = h'.get? b := fun b hb => g1 b (decide_eq_true hb)
    have ge : G'.get? e = none := g2 e (by simp)
    have old : ∀ b o, hp.get? b = some o → G'.get? b = some o := fun b o q => (gk b (Nat.ne_of_lt (Nat.lt_of_lt_of_le (Heap.lt_size q) M.new))).trans (M.keep b o q)
    have ob : ObjOk X.prog X.w (upd H1 d (.xd [(("at" : Str), v)])) G' d (.xd [(("at" : Str), v)]) :=
      ⟨_, hns.at (fun o q => (gk d M.dne).trans q), fun f => relO_err rv f⟩
    have J : Inv X pins σ (upd H1 d (.xd [(("at" : Str), v)])) ⟨G', g, dr, tk', os⟩ := I1.laid (t' := tk') old M.dbig ob
    refine ⟨e, oe, fv, ⟨G', g, dr, tk', os⟩, _, .ref C, some d, rfl, J, fun b o q => ?_, ge, hoe, ⟨hc, hd, fun vs' z => by rw [hdat] at z; cases z; exact h2⟩, hdat, h1, ?_, rfl, I1.bare, raises_own T.exC T.tyC, q1 d (I1.hok.fresh M.dbig)⟩
    · by_cases hb : b = e
      · have q' : G'.get? b = some o := q
        rw [hb, ge] at q'; cases q'
      · exact (gk b hb).symm.trans q
    · rw [upd_ne (Ne.symm M.dne)]
      exact I1.hok.fresh M.new
/-- raise Low(e) -/
def tRaiseErr (C : Addr) (W : WX) (ta : TA) : TS := fun _ σ H => tMkErr C ta σ H fun cls d H' => W cls d σ H'
theorem ps_raiseErr {a : Expr} {ta : TA} {W : WX} {p pos pos2 : Pos} {k : Nat} (hc : X.calm = true) (T : PySem.ErrX.ErrTxt X.K X.mg en qn C fI) (hr : Room k X.A) (tk : L2N.Takes X W) (ha : PA X [a] ta) (hg : Gl X en := by rfl) (hdb : (en == ("__debug__" : Str)) = false := by decide)
    (he : starEach (a :: []) X.env = (false, eval a X.env) :: starEach [] X.env := by rfl) (hpl : (backTo pos (starEach [] X.env)).any (·.1) = false := by rfl) :
    PS X (.Raise (some (.Call (.Name en p) [a] [] pos)) none pos2) (tRaiseErr C W ta) := L2N.ps_raise hc tk (pmk_err T hr ha hg hdb he hpl)
end
end KX

namespace PySem
namespace ErrX
open PySem.W PySem.Calls PyProof.Rows PySem.HandSPX
def iA0 (p1 : Pos) : Arguments :=
  { posonlyargs := [], args := [{ arg := "self", annotation := none, pos := p1 }], vararg := none,
    kwonlyargs := [], kw_defaults := [], kwarg := none, defaults := [] }
def iS0 : Scope :=
  { kind := .function, names := [(PySem.Str.ofString "self", .local)], isGenerator := false, isCoroutine := false, more := [] }
/-- an error class whose __init__(self) does nothing -/
structure ErrTxt0 (K : Frag) (mg : Str → Option Value) (en qn : Str) (C fI : Addr) : Prop where
  gC : mg en = some (.ref C)
  cls : ∃ nm q N bs bm sn sub ab col dd k0 k1 k2 k3 k5,
    K.lookup C = some (excClassObj nm q C N bs bm true sn sub ab col dd k0 k1 k2 k3 k5 "ValueError.__new__") ∧ refsVE bm = true
  iC : findIn K (.ref C) "__init__" = some (some (.ref fI))
  tC : typeIn K (.ref fI) = some (.type "function")
  kC : keepIn K (.ref C) = true
  exC : subIn K (.ref C) (.type "BaseException") = some true
  tyC : typeIn K (.ref C) = some (.type "type")
  fn : ∃ (oc : Value) (od : Option Addr) (doc pm : Value) (an : Option Addr) (cdv ct : Value) (osl : Array (Option Value)) (p1 q1 : Pos),
    K.lookup fI = some ⟨oc, od, .func (fnOf "__init__" qn (iA0 p1) [.Pass q1] iS0 .none .none doc pm an cdv ct), osl⟩ ∧
      codeIn K cdv qn = true
/-- what is made: an exception without a dict -/
structure OwnMade0 (h h' : Heap) (e C : Addr) : Prop where
  keep : ∀ b o, h.get? b = some o → h'.get? b = some o
  new : h.objs.size ≤ e
  obj : ∃ oe vs, h'.get? e = some oe ∧ oe.cls = .ref C ∧ oe.dict = none ∧ oe.data = .fields vs ∧ vs[1]? = some .none ∧
    vs[2]? = some .none
section
variable {prog : Program} {w : World} {A : Around} {E : Value → Shared → Prop} {R : Result → Shared → Prop}
  {s : Shared} {K : Frag} {mg : Str → Option Value} {C fI : Addr} {en qn : Str}
theorem err_init0 (T : ErrTxt0 K mg en qn C fI) {x : Addr} (X : K.In s.heap) (hlim : s.heap.NoLimit)
    (hroom : A.depth < recursionLimit)
    (hq : ∀ h' tk, (∀ b o, s.heap.get? b = some o → h'.get? b = some o) → R (.ok (.ret .none)) { s with heap := h', toks := tk }) :
    codeAny (model prog w) A (.call (.ref fI) ⟨[.ref x], []⟩) R s := by
  obtain ⟨oc, od, doc, pm, an, cdv, ct, osl, p1, q1, ho, hcd⟩ := T.fn
  refine Att.call_fn (binds := [("self", .ref x)]) X hlim ho hcd hroom
    (BindsTo.of_eq (by first | rfl | with_unfolding_all rfl)) (by first | rfl | decide | with_unfolding_all rfl)
    (fun s₁ IC => ?_) rfl rfl rfl
  obtain ⟨h₁, tk₁, rfl⟩ := IC.toInCall.same
  show wpAny _ _ (execs _ _) _ _ _
  refine wpAny_execs_cons ?_
  refine wpAny_Pass ?_
  show wpAny _ _ (execs _ _) _ _ _
  exact wpAny_execs_nil (hq h₁ tk₁ IC.toInCall.keep)
theorem err_made0 (T : ErrTxt0 K mg en qn C fI) (X : K.In s.heap) (hlim : s.heap.NoLimit) (hroom : A.depth + 1 < recursionLimit)
    (hq : ∀ h' tk e, OwnMade0 s.heap h' e C → R (.ok (.ret (.ref e))) { s with heap := h', toks := tk }) :
    codeAny (model prog w) A (.call (.ref C) ⟨[], []⟩) R s := by
  obtain ⟨nm, q, N, bs, bm, sn, sub, ab, col, dd, k0, k1, k2, k3, k5, hC, hbm⟩ := T.cls
  obtain ⟨hp, g, dr, tk, os⟩ := s
  have k : ∀ b o, hp.get? b = some o → ((hp.push (kdv_tup [])).push (excO C hp.objs.size)).get? b = some o :=
    fun b o e => Heap.get?_push_of_some _ (Heap.get?_push_of_some _ e)
  have hget : ((hp.push (kdv_tup [])).push (excO C hp.objs.size)).get? (hp.objs.size + 1) = some (excO C hp.objs.size) := by
    heap_get
  refine call_own F.excBase_ValueError (fun X => refsVE_contains X bm hbm) (X _ _ hC) (looks_findIn X T.iC)
    (fun self => bind_fn X self T.tC) (Nat.zero_le _) ?_
  refine err_init0 (s := ⟨(hp.push (kdv_tup [])).push (excO C hp.objs.size), g, dr, tk, os⟩) T (X.keeps k) (hlim.keeps k) ?_
    fun h' tk' k' => ?_
  · show A.depth + 1 < recursionLimit
    exact hroom
  · exact ⟨rfl, hq h' tk' (hp.objs.size + 1) ⟨fun b o e => k' b o (k b o e), Nat.le_succ _,
      ⟨_, _, k' _ _ hget, rfl, rfl, rfl, rfl, rfl⟩⟩⟩
end
end ErrX
end PySem

namespace KX
open PySem PySem.Spec PyProof.Rows L2
section
variable {X : Cx} {C fI : Addr} {en qn : Str}
def tMkErr0 (C : Addr) : L2.St → Hp → XK → Prop := fun _ H Q => Q (.ref C) none H
theorem pmk_err0 {p pos : Pos} {k : Nat} (T : PySem.ErrX.ErrTxt0 X.K X.mg en qn C fI) (hr : Room k X.A) (hg : Gl X en := by rfl)
    (hdb : (en == ("__debug__" : Str)) = false := by decide) : L2N.PMk X (.Call (.Name en p) [] [] pos) (tMkErr0 C) := by
  intro pins s σ H Q I h
  refine wpAny_Call_Name_kw (ld_glob I hg T.gC ?_ hdb)
  refine PySem.W.callWith_K0 I.kIn T.kC ?_
  show wpAny _ _ (call (.ref C) []) _ _ _
  have hlim := I.nolimit
  have KX := I.kIn
  obtain ⟨hp, g, dr, tk, os⟩ := s
  refine wpAny_call (PySem.ErrX.err_made0 T KX hlim (by have := hr.dp; omega) fun h' tk' e M => ?_)
  show L2N.MkP X pins σ Q (.ref e) ⟨h', g, dr, tk', os⟩
  obtain ⟨oe, fv, hoe, hc, hd, hdat, h1, h2⟩ := M.obj
  refine ⟨e, oe, fv, ⟨hp, g, dr, tk, os⟩, H, .ref C, none, rfl, I, M.keep, Heap.get?_none_of_le M.new, hoe,
    ⟨hc, hd, fun vs' z => by rw [hdat] at z; cases z; exact h2⟩, hdat, h1, I.hok.fresh M.new, rfl, I.bare,
    raises_own T.exC T.tyC, h⟩
def tRaiseErr0 (C : Addr) (W : WX) : TS := fun _ σ H => W (.ref C) none σ H
theorem ps_raiseErr0 {W : WX} {p pos pos2 : Pos} {k : Nat} (hc : X.calm = true) (T : PySem.ErrX.ErrTxt0 X.K X.mg en qn C fI)
    (hr : Room k X.A) (tk : L2N.Takes X W) (hg : Gl X en := by rfl) (hdb : (en == ("__debug__" : Str)) = false := by decide) :
    PS X (.Raise (some (.Call (.Name en p) [] [] pos)) none pos2) (tRaiseErr0 C W) :=
  L2N.ps_raise hc tk (pmk_err0 T hr hg hdb)
end
end KX

namespace KX
open PySem PySem.Spec PyProof.Rows L2 L2H
/-! contracts under a condition C on the call's surroundings -/
abbrev Con := Around → List Env → Shared → Hp → Prop
structure FnR (P : Program) (w : World) (K : PySem.W.Frag) (mg : Str → Option Value) (base : Heap) (CX : CXT) (C : Con)
    (f : Addr) (fd : FuncData) (ps : List Str) (sp : Sp) : Prop where
  sized : ∀ vs H Q E, sp vs H Q E → vs.length = ps.length
  does : ∀ (A : Around) (outer : List Env) (s : Shared) (H : Hp) (args : Args) (us : List Value) (vs : List V) (Q : VK) (E : XK),
    C A outer s H → Env0 P w K mg base A outer s H → BindsTo s fd args (ps.zip us) → Vals vs us → sp vs H Q E →
      codeAny (model P w) A (.call (.ref f) args) (CR CX outer P w H s Q E) s
/-- no repr is under way -/
def CG (k : Nat) : Con := fun A _ _ _ => Room k A ∧ A.guards = some []
/-- p is the exception that is handled -/
def CP (k : Nat) (p : Addr × Obj) : Con := fun A outer s H => RoomH k A ∧ Hot1 A p ∧ PinOk outer H s p
/-- a body's context, calm or not, with pins -/
abbrev cxV (c : Bool) (pn : List (Addr × Obj)) (X : Cx) : Cx := { X with calm := c, pn := pn }
section
variable {CX : CXT} {P : Program} {w : World} {K : PySem.W.Frag} {mg : Str → Option Value} {base : Heap} {f : Addr}
  {name qual : Str} {params : Arguments} {body : List Stmt} {scope : Scope} {dV kV doc pm cdv ct oc : Value}
  {an od : Option Addr} {osl : Array (Option Value)} {N ps : List Str}
theorem call_body {A : Around} {outer : List Env} {s : Shared} {H : Hp} {args : Args} {us : List Value} {vs : List V} {Q : VK}
    {E : XK} {c : Bool} {pn : List (Addr × Obj)}
    (lk : K.lookup f = some ⟨oc, od, .func (PySem.W.fnOf name qual params body scope dV kV doc pm an cdv ct), osl⟩)
    (hcd : PySem.W.codeIn K cdv qual = true) (S : FnScope N ps scope) (hdp : A.depth < recursionLimit)
    (e0 : Env0 P w K mg base A outer s H)
    (hb : BindsTo s (PySem.W.fnOf name qual params body scope dV kV doc pm an cdv ct) args (ps.zip us))
    (begins : ∀ s1, InCallC s s.heap.objs.size
        (bindL (envOfC qual scope s.heap.objs.size f cdv).kindOf (ps.zip us) fun _ => none)
        (cellsFrom (s.heap.objs.size + 1) scope.names [])
        (bindC (envOfC qual scope s.heap.objs.size f cdv).kindOf (ps.zip us) fun _ => none) s1 →
      L2.Inv (cxV c pn (cxOf CX P w K mg base N qual scope f cdv A outer s H E)) [] (L2.start N vs) H s1)
    (reads : ∃ t, PSs (cxV c pn (cxOf CX P w K mg base N qual scope f cdv A outer s H E)) body t ∧
      t { nx := fun _ H' => Q .non H', rt := Q } (L2.start N vs) H) :
    codeAny (model P w) A (.call (.ref f) args) (CR CX outer P w H s Q E) s := by
  have stays : ∀ b o, base.get? b = some o → s.heap.get? b = some o := fun b o e => (e0.bs b o e).1
  have KI := e0.mod.kin.keeps stays
  have NL := e0.mod.nolimit.keeps stays
  refine codeAny_call_function hdp (KI _ _ lk) rfl S.co S.gen rfl
    (PySem.W.codeRec_of KI hcd) (hb _ _ _ _ ?_)
  refine wpAny_newFunctionEnv_cells S.kind (fun y hy => ?_) fun env he s1 x => ?_
  · obtain ⟨n, v⟩ := y
    cases S.par n (List.of_mem_zip hy).1 with
    | inl q => exact Or.inl q
    | inr q => exact Or.inr ⟨q, PySem.W.cellsFrom_some _ _ _ (Or.inl q)⟩
  · subst he
    obtain ⟨t, ht, hq⟩ := reads
    have I := begins s1 x
    refine ⟨NL.keeps x.toInCall.keep, codeAny_func (wpAny_mono (ht.run [] s1 (L2.start N vs) H _ I hq)
      (fun fl s' hs => ?_) fun e s' hs => hs)⟩
    cases fl with
    | ret u =>
      obtain ⟨v, σ', H', J, rv, q⟩ := hs
      exact ⟨v, H', J.os, J.bare, J.base, J.hok, rv, q⟩
    | next =>
      obtain ⟨σ', H', J, q⟩ := hs
      exact ⟨V.non, H', J.os, J.bare, J.base, J.hok, rfl, q⟩
    | brk => exact False.elim hs.choose_spec.choose_spec.2
    | cont => exact False.elim hs.choose_spec.choose_spec.2
/-- a def under CG -/
theorem fnG_of {k : Nat} {sp : Sp}
    (lk : K.lookup f = some ⟨oc, od, .func (PySem.W.fnOf name qual params body scope dV kV doc pm an cdv ct), osl⟩)
    (hcd : PySem.W.codeIn K cdv qual = true) (S : FnScope N ps scope)
    (sized : ∀ vs H Q E, sp vs H Q E → vs.length = ps.length)
    (reads : ∀ (A : Around) (outer : List Env) (s : Shared) (H : Hp) (vs : List V) (Q : VK) (E : XK),
      Room k (A.deeper (envOfC qual scope s.heap.objs.size f cdv)) → A.guards = some [] → sp vs H Q E →
      ∃ t, PSs (cxOf CX P w K mg base N qual scope f cdv A outer s H E) body t ∧
        t { nx := fun _ H' => Q .non H', rt := Q } (L2.start N vs) H) :
    FnR P w K mg base CX (CG (k + 1)) f (PySem.W.fnOf name qual params body scope dV kV doc pm an cdv ct) ps sp :=
  ⟨sized, fun A outer s H args us vs Q E hc e0 hb r h =>
    call_body (c := true) (pn := []) lk hcd S hc.1.depth e0 hb
      (fun s1 x => inv_start S hc.1.hd e0 (sized _ _ _ _ h) r x) (reads A outer s H vs Q E (hc.1.deeper _) hc.2 h)⟩
/-- a def under CP -/
theorem fnP_of {k : Nat} {sp : Sp} {p : Addr × Obj}
    (lk : K.lookup f = some ⟨oc, od, .func (PySem.W.fnOf name qual params body scope dV kV doc pm an cdv ct), osl⟩)
    (hcd : PySem.W.codeIn K cdv qual = true) (S : FnScope N ps scope)
    (sized : ∀ vs H Q E, sp vs H Q E → vs.length = ps.length)
    (reads : ∀ (A : Around) (outer : List Env) (s : Shared) (H : Hp) (vs : List V) (Q : VK) (E : XK), Hot1 A p →
      RoomH k (A.deeper (envOfC qual scope s.heap.objs.size f cdv)) → sp vs H Q E →
      ∃ t, PSs (cxV false [p] (cxOf CX P w K mg base N qual scope f cdv A outer s H E)) body t ∧
        t { nx := fun _ H' => Q .non H', rt := Q } (L2.start N vs) H) :
    FnR P w K mg base CX (CP (k + 1) p) f (PySem.W.fnOf name qual params body scope dV kV doc pm an cdv ct) ps sp :=
  ⟨sized, fun A outer s H args us vs Q E hc e0 hb r h =>
    call_body (c := false) (pn := [p]) lk hcd S hc.1.depth e0 hb
      (fun s1 x => inv_startH S hc.2.2 e0 (sized _ _ _ _ h) r x)
      (reads A outer s H vs Q E hc.2.1 (hc.1.deeper _) h)⟩
end
section
variable {X : Cx} {CX : CXT} {C : Con} {f : Addr} {fd : FuncData} {ps : List Str} {sp : Sp} {E : XK} {x : Str} {p pos : Pos}
  {e : Expr} {es : List Expr} {t : TA}
/-- a call of such a def -/
theorem pe_callR (F : FnR X.prog X.w X.K X.mg X.base CX C f fd ps sp)
    (hC : ∀ pins σ H s, L2.Inv X pins σ H s → C X.A X.stack s H) (hg : Gl X x) (hm : X.mg x = some (.ref f))
    (hk : PySem.W.keepIn X.K (.ref f) = true) (hb : Binds X.K fd ps []) (hx : Passes CX X E) (ha : PA X (e :: es) t)
    (hdb : (x == ("__debug__" : Str)) = false := by decide)
    (he : starEach (e :: es) X.env = (false, eval e X.env) :: starEach es X.env := by rfl)
    (hpl : (backTo pos (starEach es X.env)).any (·.1) = false := by rfl) :
    PE X (.Call (.Name x p) (e :: es) [] pos) (tCall sp [] E t) := by
  refine ⟨fun pins s σ H Q I h => wpAny_Call_Name_kw (ld_glob I hg hm ?_ hdb)⟩
  refine PySem.W.callWith_K (h₀ := X.base) I.ok.mod.kin hk
    (thn (ha.run pos pins s σ H _ I h) fun us s1 hh => ?_) he hpl
  obtain ⟨vs, H1, I1, r, q⟩ := hh
  rw [List.append_nil] at q
  have hl : (us ++ []).length = ps.length := by
    rw [List.append_nil, ← r.length]
    exact F.sized _ _ _ _ q
  have b := hb s1 us I1.kIn hl
  rw [List.append_nil] at b
  refine ⟨I1.kIn, wpAny_call (codeAny_mono
    (F.does X.A X.stack s1 H1 ⟨us, []⟩ us vs Q E (hC _ _ _ _ I1) I1.env0 b r q) fun r s' hq => ?_)⟩
  match r, hq with
  | .error e, hq => exact hx pins σ H1 s1 e s' I1 hq
  | .ok (.ret u), hq => exact I1.after hq
end
end KX

namespace KX
open PySem PySem.Spec PyProof.Rows L2 L2H
/-! in an except suite -/
theorem hot_suite {X : Cx} {a : Addr} {oe : Obj} {cls : Value} {d : Option Addr} {pn : List (Addr × Obj)}
    (hz : L2N.Zn cls d oe) (hf : ∃ vs, oe.data = .fields vs) : HotC (X.suite a ((a, oe) :: pn)) := by
  obtain ⟨vs, hv⟩ := hf
  exact ⟨(a, oe), ⟨rfl, vs, hv, hz.2.2 vs hv⟩, List.mem_cons_self⟩
/-- the dict of the exception, if any, is tracked -/
def DictIs (d : Option Addr) (H : Hp) : Prop := d = none ∨ ∃ dd fs, d = some dd ∧ H dd = some (.xd fs)
/-- isinstance(e, c), e pinned -/
def rIsP (K : PySem.W.Frag) (D a : Addr) (d : Option Addr) : List V → Hp → VK → Prop := fun xs H Q =>
  DictIs d H ∧ ∃ (c : V) (cv : Value) (b : Bool), xs = [.ref a, c] ∧ (∀ u, RelV c u → u = cv) ∧
    PySem.W.kitOne K (.ref D) cv = some b ∧ Q (.bl b) H
theorem call_isP {X : Cx} {a D : Addr} {oe : Obj} {d : Option Addr} (C : ExcC X.K D) (hp : (a, oe) ∈ X.pn)
    (hz : Zc (.ref D) d oe) (hf : ∃ vs, oe.data = .fields vs) : CallR X (.builtin "isinstance") (rIsP X.K D a d) := by
  intro pins s σ H xs us Q I r h
  obtain ⟨hd, c, cv, b, rfl, hcv, e, q⟩ := h
  cases r with
  | cons rx rr =>
    cases rr with
    | cons rt rr =>
      cases rr
      cases rx
      have ec := hcv _ rt
      subst ec
      obtain ⟨hget, _⟩ := I.pin (a, oe) (List.mem_append_left _ hp)
      obtain ⟨vs, hv⟩ := hf
      obtain ⟨od, J⟩ : ∃ od, PySem.W.InstAt s.heap a oe D od := by
        rcases hd with hd | ⟨dd, fs, hd, hH⟩
        · refine ⟨none, hget, hz.1, by unfold PySem.W.notCls; rw [hv] <;> rfl, ?_⟩
          rw [hz.2, hd]
          trivial
        · have hx : ObjOk X.prog X.w H s.heap dd (.xd fs) := I.hok dd _ hH
          obtain ⟨mA, hns, _⟩ := hx
          obtain ⟨od, ho, _⟩ := lookIn_ns hns
          refine ⟨some od, hget, hz.1, by unfold PySem.W.notCls; rw [hv] <;> rfl, ?_⟩
          rw [hz.2, hd]
          exact ho
      have hcl : (PySem.W.clsIn X.K D).isSome = true := by
        obtain ⟨cd, hc, _⟩ := PySem.W.any_some C.hd
        rw [hc]
        rfl
      exact PySem.W.kia_one (PySem.W.kitx_exc (od := od) (ox := oe) hcl C.hg C.hk C.hs C.ha C.hn C.ht C.hm) I.kIn J e
        (fun z => nomatch z) fun tk => ⟨.bl b, H, I.kept (t' := tk) fun _ _ z => z, rfl, q⟩
/-! a list comprehension there -/
section
variable {X : Cx}
/-- the block's context, the handled exception pinned -/
abbrev hblk (X : Cx) (p : Addr × Obj) (s : Shared) (H : Hp) (scope : Scope) (ce : Env) (fp : List Addr) : Cx :=
  (X.blk s H scope ce fp).tr ([] ++ [p]) (fun _ _ => False)
theorem to_hblk {p : Addr × Obj} {s s' : Shared} {H H' : Hp} {scope : Scope} {ce : Env} {fp : List Addr} {σ : L2.St}
    (I : L2.Inv (X.blk s H scope ce fp) [] σ H' s')
    (h : s'.heap.get? p.1 = some p.2 ∧ H' p.1 = none ∧ p.1 ≠ ce.locals ∧ p.1 ∉ (X.blk s H scope ce fp).fs ∧ ∀ v, p.2.data ≠ .cell v) :
    L2.Inv (hblk X p s H scope ce fp) [] σ H' s' :=
  (I.pins_of (pins' := [p]) fun q hq => by rw [List.mem_singleton.mp hq]; exact h).toTry _
theorem hblk_hot {p : Addr × Obj} {s : Shared} {H : Hp} {scope : Scope} {ce : Env} {fp : List Addr} (h : Hot1 X.A p) :
    HotC (hblk X p s H scope ce fp) := ⟨p, h, by simp⟩
theorem pe_lcHot {p : Addr × Obj} {elt tg iter : Expr} {scope : Scope} {own : List (Str × Nat)} {pos : Pos} {wi : TI} {g : TG}
    {te : TE} (hot : Hot1 X.A p) (hp : p ∈ X.pn) (hN : X.N.Nodup) (hi : PIH X tg iter wi) (ok : BlkOk X.N X.env.scope scope own)
    (hg : ∀ s H C cl fp, PG (hblk X p s H scope (compEnvC scope cl C X.env) fp) tg g)
    (he : ∀ s H C cl fp, PE (hblk X p s H scope (compEnvC scope cl C X.env) fp) elt te)
    (hs : ∀ x, foldedSetIterable iter X.env x = pure x := by intro _; rfl) :
    PE X (.ListComp elt [⟨tg, iter, [], 0⟩] scope pos) (tLc wi g tYes te (own.map (·.2))) := by
  refine ⟨fun pins s σ H Q I h => ?_⟩
  rw [eval_ListComp]
  have free : ∀ y ∈ scope.names, y.2 = .free → ∃ c, X.env.cells.lookup y.1 = some c := fun y hy e =>
    (ok.free y hy e).elim (fun k => I.ok.has _ (Or.inl k)) fun k => I.ok.has _ (Or.inr k)
  refine wpAny_comprehension_free (use := none) rfl hs (closure_ok free) ok.kind
    (fun y hy e => by rw [ok.uniq y hy, e])
    (thn (hi.run pins s σ H _ I h) fun xv s1 hx => thn hx fun itv s2 h2 => ?_)
  obtain ⟨it, fp, tn, J, H2, e, I2, T, st2, f2, q⟩ := h2
  subst e
  refine wpAny_newObj_type (newEnv_comp ?_) (by show 0 ≤ sizeLine; decide)
  generalize hD : s2.heap.objs.size = D
  have hDn : H2 D = none := I2.hok.fresh (Nat.le_of_eq hD)
  obtain ⟨W, ⟨m0, w0⟩, turn⟩ := q D hDn
  generalize hs3 : ({ s2 with heap := s2.heap.push { cls := .type "list", data := .seq ([] : List Value).toArray } } : Shared) = s3
  have k23 : ∀ b o, s2.heap.get? b = some o → s3.heap.get? b = some o := fun b o e => by
    rw [← hs3]
    exact Heap.get?_push_of_some _ e
  have I3 : L2.Inv X pins σ (upd H2 D (.lst [])) s3 := by
    rw [← hs3]
    refine I2.laid (t' := s2.toks) (fun b o e => Heap.get?_push_of_some _ e) (Nat.le_of_eq hD)
      ⟨Nat.zero_le _, [], 0, .nil, ?_⟩
    rw [← hD]
    exact Heap.get?_push_size _ rfl
  have sz3 : s3.heap.objs.size = s2.heap.objs.size + 1 := by rw [← hs3]; exact Heap.size_push ..
  have P3 := I3.pin p (List.mem_append_left _ hp)
  have small : ∀ b ∈ fp, b < s2.heap.objs.size := fun b hb =>
    let ⟨_, e, _⟩ := T.obj _ _ st2 b hb
    Heap.lt_size e
  have f3 : ∀ b ∈ fp, FpOk X pins (upd H2 D (.lst [])) b ∧ b < s3.heap.objs.size := fun b hb => by
    have hlt := small b hb
    refine ⟨⟨?_, (f2 b hb).2⟩, by rw [sz3]; exact Nat.lt_succ_of_lt hlt⟩
    rw [upd_ne (by rw [← hD]; exact Nat.ne_of_lt hlt)]
    exact (f2 b hb).1
  have st3 : tn 0 s3.heap := T.keep _ _ _ st2 fun b _ o e => k23 b o e
  have I4' := block_start I3 ok hN f3
  show codeAny _ _ (.compStart (.ListComp elt [⟨tg, iter, [], 0⟩] scope pos) 0 (.ref it) (.ref D)
      (compEnvC scope (cellsFrom (s3.heap.objs.size + 1) scope.names (cloFrom X.env.cells scope.names [])) s3.heap.objs.size X.env))
    (compPost (model X.prog X.w) X.A X.xe none (EP X pins σ Q) (.ref D) s3.heap.objs.size)
    { s3 with heap := pushCells (s3.heap.push { cls := .type "dict", data := .dict #[] }) scope.names }
  have pg := hg s3 (upd H2 D (.lst [])) s3.heap.objs.size
    (cellsFrom (s3.heap.objs.size + 1) scope.names (cloFrom X.env.cells scope.names [])) fp
  have pe := he s3 (upd H2 D (.lst [])) s3.heap.objs.size
    (cellsFrom (s3.heap.objs.size + 1) scope.names (cloFrom X.env.cells scope.names [])) fp
  generalize hce : compEnvC scope (cellsFrom (s3.heap.objs.size + 1) scope.names
    (cloFrom X.env.cells scope.names [])) s3.heap.objs.size X.env = ce at I4' pg pe ⊢
  have cL : ce.locals = s3.heap.objs.size := by subst hce; rfl
  generalize hH3 : upd H2 D (.lst []) = H3 at I3 I4' pg pe w0 f3 P3
  generalize hs4 : ({ s3 with heap := pushCells (s3.heap.push { cls := .type "dict", data := .dict #[] }) scope.names } : Shared) = s4
    at I4' ⊢
  have k34 : ∀ b o, s3.heap.get? b = some o → s4.heap.get? b = some o := fun b o e => by
    rw [← hs4]
    exact pushCells_keeps _ _ _ _ (Heap.get?_push_of_some _ e)
  have st4 : tn 0 s4.heap := T.keep _ _ _ st3 fun b _ o e => k34 b o e
  have nfs : p.1 ∉ (X.blk s3 H3 scope ce fp).fs := fun hm =>
    (List.mem_cons.mp (I3.stkSub p.1 hm)).elim P3.2.2.1 P3.2.2.2.1
  have I4 : L2.Inv (hblk X p s3 H3 scope ce fp) [] (wipe σ (own.map (·.2))) H3 s4 := to_hblk I4'
    ⟨k34 _ _ P3.1, P3.2.1, by rw [cL]; exact Nat.ne_of_lt (Heap.lt_size P3.1), nfs, P3.2.2.2.2⟩
  have hc : HotC (hblk X p s3 H3 scope ce fp) := hblk_hot hot
  have nfp : ∀ b ∈ fp, H3 b = none := fun b hb => (f3 b hb).1.1
  have stat : ∀ {σ' : L2.St} {H' : Hp} {s' : Shared}, L2.Inv (hblk X p s3 H3 scope ce fp) [] σ' H' s' → (∀ b ∈ fp, H' b = none) →
      ∀ b ∈ fp, FpOk (hblk X p s3 H3 scope ce fp) [] H' b := fun {σ' H' s'} I' hn b hb =>
    ⟨hn b hb, (I'.ok.exf b hb).1, I'.ok.exfs b hb, Or.inl hb, fun x c e => (I'.ok.exf b hb).2 x c e, fun r hr => by
      have er : r = p := by simpa using hr
      rw [er]
      exact (f3 b hb).1.2.2.2.2.2 p (List.mem_append_left _ hp)⟩
  have loop : codeAny (model X.prog X.w) X.A (.compLoop (.ListComp elt [⟨tg, iter, [], 0⟩] scope pos) 0 (.ref it) (.ref D) ce)
      (compPost (model X.prog X.w) X.A X.xe none (EP X pins σ Q) (.ref D) s3.heap.objs.size) s4 := by
    refine compLoop_any (fun n s' => ∃ i H', L2.Inv (hblk X p s3 H3 scope ce fp) [] (wipe σ (own.map (·.2))) H' s' ∧
      tn i s'.heap ∧ (∀ b ∈ fp, H' b = none) ∧ W i n H') ?_ m0 ⟨0, H3, I4, st4, nfp, w0⟩
    rintro n s5 ⟨i, H5, I5, st5, n5, w5⟩
    rcases turn i n H5 w5 with ⟨stop, qq⟩ | ⟨go, Nx, hNx, step⟩
    · refine thnF (T.done (hblk X p s3 H3 scope ce fp) rfl rfl rfl hc i [] s5 _ H5 (fun _ _ => False) I5 (stat I5 n5) st5 stop)
        fun r s6 hr => ?_
      obtain ⟨rfl, I6⟩ := hr
      have I7 : L2.Inv X pins σ H5 s6 := I3.call' (ch := fp) I6.os I6.base I6.hok I6.bare fun b hb =>
        let z := (f3 b hb).1.2
        ⟨z.2.2.1, z.1, z.2.2.2.1, z.2.2.2.2⟩
      have nC : H5 s3.heap.objs.size = none := by rw [← cL]; exact I6.free
      obtain ⟨m, hn, _⟩ := I6.loc
      have hn : s6.heap.Ns s3.heap.objs.size m := by rw [← cL]; exact hn
      obtain ⟨g0, g1, g2, g3, g4, g5⟩ := I3.fpOk (Nat.le_refl _) nC
      exact ⟨m, hn, fun h'' sb => ⟨.ref D, H5,
        I7.turned (t' := s6.toks) (fun b o hb e => (sb.2 b hb).trans e) g0 g1 g3 g4 g5, rfl, qq⟩⟩
    · refine thnF (T.item (hblk X p s3 H3 scope ce fp) rfl rfl rfl hc i [] s5 _ H5 (fun _ _ => False) I5 (stat I5 n5) st5 go)
        fun r s6 hr => ?_
      obtain ⟨u, rfl, h6⟩ := hr
      refine thnF h6 fun _ s7 h7 => ?_
      obtain ⟨x, H7, I7, r7, y7, st7, n7⟩ := h7
      have I7' := I7.pinned (stat I7 n7) (T.obj _ _ st7)
      refine thnF (pg.run _ s7 _ H7 x u _ I7' r7 (step x H7 y7)) fun _ s8 h8 => ?_
      obtain ⟨σ8, H8, I8, hw8, q8⟩ := h8
      refine wpAny_pure ?_
      have q9 : te σ8 H8 fun y H4 => ∃ acc, H4 D = some (.lst acc) ∧ acc.length < sizeLine ∧ Nx (upd H4 D (.lst (acc ++ [y]))) := q8
      simp only [if_true]
      refine thnF (pe.run _ s8 σ8 H8 _ I8 q9) fun z s10 h10 => ?_
      obtain ⟨yv, H10, I10, r10, acc, hD10, hz10, nx⟩ := h10
      refine app_ok (X := hblk X p s3 H3 scope ce fp) I10 hD10 hz10 r10 fun s11 I11 => ?_
      obtain ⟨m', hm, w'⟩ := hNx _ nx
      have kept : ∀ b ∈ fp, ∀ o, s7.heap.get? b = some o → s11.heap.get? b = some o ∧
          (upd H10 D (.lst (acc ++ [yv]))) b = none := fun b hb o e =>
        let z := I11.pin (b, o) (List.mem_append_right _ (List.mem_append_right _ (mem_pinsAt hb e)))
        ⟨z.1, z.2.1⟩
      refine ⟨m', hm, i + 1, _, (I11.unpinned (pins := [])).weak (by rw [← hw8, wipe_length]) (fun j v e => ?_),
        T.keep _ _ _ st7 fun b hb o e => (kept b hb o e).1, fun b hb => ?_, w'⟩
      · rw [← hw8] at e
        exact (wipe_some e).1
      · obtain ⟨o, e, _⟩ := T.obj _ _ st7 b hb
        exact (kept b hb o e).2
  exact codeAny_compStart_list loop (T.self X.A 0 _ _ _ st4 loop)
end
end KX

namespace KX
open PySem PySem.Spec PyProof.Rows L2 L2H
/-! the law's own call, its def promised under CG -/
theorem none_or_at {H : Hp} {a : Addr} (hA : ∀ b, H b ≠ none → b = a) (b : Addr) : H b = none ∨ b = a := by
  cases q : H b with
  | none => exact Or.inl rfl
  | some u => exact Or.inr (hA b (by rw [q]; exact fun z => nomatch z))
theorem lawG_core {P : Program} {w : World} {K : PySem.W.Frag} {mg mb : Str → Option Value} {CX : CXT} {k : Nat} {fa a : Addr}
    {fd : FuncData} {x : Str} {sp : Sp} {s₁ : Shared} {vs : List Value} {H : Hp}
    (KI : K.In s₁.heap) (hns : s₁.heap.Ns mainGlobals mg) (hb : s₁.heap.Ns builtinsNs mb)
    (hbb : ∀ x : Str, x ≠ "__name__" → mb x = bootBuiltins x) (hlim : s₁.heap.NoLimit) (hg : s₁.gens = #[])
    (ha : s₁.heap.get? a = some { cls := .type "list", data := .seq vs.toArray }) (hr : Room k callerA)
    (F : ∀ base : Heap, K.In base → base.Ns mainGlobals mg → FnR P w K mg base CX (CG k) fa fd [x] sp)
    (hbind : ∀ (s : Shared) (u : Value), BindsTo s fd ⟨[u], []⟩ [(x, u)])
    (hCX : ∀ H e s', CX [] H s₁ (fun _ _ _ => False) e s' → False)
    (hO : Only H) (hS : sp [.ref a] H (fun v _ => v = .bl true) fun _ _ _ => False) (hok : HOk P w H s₁.heap)
    (hA : ∀ b, H b ≠ none → b = a) (hK : H a ≠ none → K.lookup a = none) :
    codeAny (model P w) callerA (.call (.ref fa) ⟨[.ref a], []⟩)
      (fun r s' => r = .ok (.ret (.bool true)) ∧ OldK s₁.heap s'.heap ∧ s'.os = s₁.os ∧ AllBare s'.gens) s₁ := by
  have dictFree : ∀ {b : Addr} {o : Obj} {es : Array DictEntry} {ep : Nat}, s₁.heap.get? b = some o → o.data = .dict es ep → H b = none :=
    fun {b o es ep} e d => (none_or_at hA b).resolve_right fun z => by
      subst z
      rw [ha] at e
      cases e
      have d' : Data.seq vs.toArray _ = Data.dict es ep := d
      cases d'
  have ns' : ∀ {b : Addr} {m : Str → Option Value}, s₁.heap.Ns b m → (hidT s₁.heap H).Ns b m := fun {b m} n => by
    obtain ⟨o, es, ep, e, d, r⟩ := n
    exact ⟨o, es, ep, hidT_get e (dictFree e d), d, r⟩
  have KB : K.In (hidT s₁.heap H) := fun b o e => by
    cases q : H b with
    | none => exact hidT_get (KI b o e) q
    | some u =>
      have eb : b = a := hA b (by rw [q]; exact fun z => nomatch z)
      subst eb
      rw [hK (by rw [q]; exact fun z => nomatch z)] at e
      cases e
  have MB : Mod K mg (hidT s₁.heap H) := by
    obtain ⟨mc, h1, h2⟩ := hlim
    exact ⟨KB, ns' hns, ⟨mb, ns' hb, hbb⟩, ⟨mc, ns' h1, h2⟩⟩
  have e0 : Env0 P w K mg (hidT s₁.heap H) callerA [] s₁ H :=
    ⟨rfl, MB, fun b o e => of_hidT e, Nat.le_of_eq (hidT_size _ _), trivial,
      fun b hb => absurd (show b ∈ ([] : List Addr) from hb) (by simp), hok, .of_eq hg⟩
  refine codeAny_mono ((F _ KB (ns' hns)).does callerA [] s₁ H ⟨[.ref a], []⟩ [.ref a] [.ref a] _ _ ⟨hr, rfl⟩ e0
    (hbind s₁ (.ref a)) (.cons rfl .nil) hS) fun r s' h => ?_
  match r, h with
  | .error e, h => exact (hCX H e s' h).elim
  | .ok (.ret u), h =>
    obtain ⟨v, H', os, bare, un, hok', r', q⟩ := h
    have q' : v = .bl true := q
    subst q'
    obtain rfl : u = Value.bool true := r'
    refine ⟨rfl, OldK.of_keep fun b o e => ?_, os, bare⟩
    cases q : H b with
    | none => exact un.keep b o e q (by intro z; exact absurd (show b ∈ ([] : List Addr) from z) (by simp)) (by simp)
    | some u =>
      rcases hO b with z | ⟨ob, xs, z⟩
      · rw [q] at z
        cases z
      · have e1 := (hok b _ z).1
        have e2 := (hok' b _ (un.frzs b ob _ z)).1
        rw [e] at e1
        cases e1
        exact e2
theorem law_callG {P : Program} {w : World} {K : PySem.W.Frag} {mg mb : Str → Option Value} {CX : CXT} {k : Nat} {fa a : Addr}
    {fd : FuncData} {x : Str} {sp : Sp} {s₁ : Shared} {vs : List Value} {ns : List Int}
    (KI : K.In s₁.heap) (hns : s₁.heap.Ns mainGlobals mg) (hb : s₁.heap.Ns builtinsNs mb)
    (hbb : ∀ x : Str, x ≠ "__name__" → mb x = bootBuiltins x) (hlim : s₁.heap.NoLimit) (hg : s₁.gens = #[])
    (ha : s₁.heap.get? a = some { cls := .type "list", data := .seq vs.toArray }) (hi : IntsAre vs ns)
    (hl : ns.length ≤ sizeLine) (hr : Room k callerA)
    (F : ∀ base : Heap, K.In base → base.Ns mainGlobals mg → FnR P w K mg base CX (CG k) fa fd [x] sp)
    (hbind : ∀ (s : Shared) (u : Value), BindsTo s fd ⟨[u], []⟩ [(x, u)])
    (hsp : ∀ H : Hp, Only H → SqL K H a (ns.map V.int) → sp [.ref a] H (fun v _ => v = .bl true) fun _ _ _ => False)
    (hCX : ∀ H e s', CX [] H s₁ (fun _ _ _ => False) e s' → False) :
    codeAny (model P w) callerA (.call (.ref fa) ⟨[.ref a], []⟩)
      (fun r s' => r = .ok (.ret (.bool true)) ∧ OldK s₁.heap s'.heap ∧ s'.os = s₁.os ∧ AllBare s'.gens) s₁ := by
  have rv := vals_ints hi
  cases hk : K.lookup a with
  | some o =>
    have e := KI a o hk
    rw [ha] at e
    cases e
    have O : Only fun _ => none := fun _ => Or.inl rfl
    have S : SqL K (fun _ => none) a (ns.map V.int) :=
      Or.inr ⟨_, vs.toArray, _, hk, rfl, rfl, rfl, by rw [List.size_toArray, hi.length]; exact hl, by simpa using rv⟩
    exact lawG_core KI hns hb hbb hlim hg ha hr F hbind hCX O (hsp _ O S) (fun b u z => nomatch z) (fun b z => absurd rfl z)
      fun z => absurd rfl z
  | none =>
    let H : Hp := fun b => if b = a then
      some (.frz { cls := .type "list", data := .seq vs.toArray } (.lst (ns.map V.int))) else none
    have at_ : H a = some (.frz { cls := .type "list", data := .seq vs.toArray } (.lst (ns.map V.int))) := if_pos rfl
    have off : ∀ {b}, b ≠ a → H b = none := fun h => if_neg h
    have O : Only H := fun b => by
      by_cases h : b = a
      · subst h
        exact Or.inr ⟨_, _, at_⟩
      · exact Or.inl (off h)
    have S : SqL K H a (ns.map V.int) := Or.inl (Or.inr ⟨_, at_⟩)
    refine lawG_core (H := H) KI hns hb hbb hlim hg ha hr F hbind hCX O (hsp _ O S) (fun b u z => ?_)
      (fun b z => Classical.byContradiction fun h => z (off h)) fun _ => hk
    by_cases h : b = a
    · subst h
      rw [at_] at z
      cases z
      exact ⟨ha, by rw [List.length_map]; exact hl, vs, _, rv, ha⟩
    · rw [off h] at z
      cases z
/-- what k_head leaves, by the law's promise under CG -/
theorem walk_ofG {l : PySem.W.OpenLaw} {n k : Nat} {q : Program} {loose : List Str} {XP : (Str → Option Value) → Heap → Prop}
    {YP : World → Heap → Prop} {d : DefRec} {K : Params → PySem.W.Frag} {CX : CXT} {sp : PySem.W.Frag → Sp} {x : Str}
    (hn : l.most = some n) (hn2 : n ≤ sizeLine) (hdf : d.params.defaults = []) (hr : Room k callerA)
    (hY : ∀ (w : World) (h : Heap), YP w h → (K w.params).In h)
    (F : ∀ (w : World) (mg : Str → Option Value) (fa : Addr) (h : Heap), (K w.params).In h → h.Ns mainGlobals mg →
      mg d.name = some (.ref fa) → ∃ fd : FuncData, (∀ (s : Shared) (u : Value), BindsTo s fd ⟨[u], []⟩ [(x, u)]) ∧
        ∀ base : Heap, (K w.params).In base → base.Ns mainGlobals mg →
          FnR l.prog w (K w.params) mg base CX (CG k) fa fd [x] (sp (K w.params)))
    (hsp : ∀ (K : PySem.W.Frag) (H : Hp) (a : Addr) (ns : List Int), ns.length ≤ n → Only H → SqL K H a (ns.map V.int) →
      sp K [.ref a] H (fun v _ => v = .bl true) fun _ _ _ => False)
    (hCX : ∀ (H : Hp) (s : Shared) (e : Value) (s' : Shared), CX [] H s (fun _ _ _ => False) e s' → False) :
    PySem.W.WalkO q loose XP YP l.row.toRowW d [] (fun f vs => PySem.call f vs) := by
  refine Att.attach_call hn hdf fun w s₀ s₁ mg mb fa o pm cd doc a vs ns G Y ho hd hcd hmg hobj hints hlen hg => ?_
  have KI := hY w _ Y
  obtain ⟨fd, hb, hF⟩ := F w mg fa _ KI G.T.g hmg
  exact law_callG KI G.T.g G.T.b G.T.builtins G.T.nolimit hg hobj hints (Nat.le_trans hlen hn2) hr hF hb
    (fun H hO hS => hsp (K w.params) H a ns hlen hO hS) fun H e s' => hCX H s₁ e s'
end KX

namespace KX
open PySem PySem.Spec PyProof.Rows L2
/-! calls by keywords alone -/
section
variable {X : Cx} {CX : CXT} {k : Nat} {f : Addr} {fd : FuncData} {ps ks : List Str} {sp : Sp} {E : XK} {x : Str} {p pos : Pos}
  {kws : List Keyword} {t tk : TA} {g : List Value → List Value → List Value} {gV : List V → List V → List V}
def tCallK (m : Nat) (sp : Sp) (gV : List V → List V → List V) (E : XK) (tk : TA) : TE := fun σ H Q =>
  tk σ H fun zs H2 => zs.length = m ∧ sp (gV [] zs) H2 Q E
theorem pe_callK (F : FnOk X.prog X.w X.K X.mg X.base CX k f fd ps sp) (hr : Room k X.A) (hg : Gl X x) (hm : X.mg x = some (.ref f))
    (hk : PySem.W.keepIn X.K (.ref f) = true) (hb : KBn X.K fd ps 0 ks g gV) (hx : Passes CX X E) (hkw : PK X kws tk)
    (hall : (backToKw pos (keywordEach kws X.env)).all (·.1.isSome) = true := by rfl)
    (hks : (backToKw pos (keywordEach kws X.env)).filterMap (·.1) = ks := by rfl)
    (hdb : (x == ("__debug__" : Str)) = false := by decide)
    (hpl : ((backTo pos (starEach [] X.env)).any (·.1) || (backToKw pos (keywordEach kws X.env)).any (·.1.isNone)) = false := by rfl) :
    PE X (.Call (.Name x p) [] kws pos) (tCallK ks.length sp gV E tk) := by
  refine ⟨fun pins s σ H Q I h => wpAny_Call_Name_kw (ld_glob I hg hm ?_ hdb)⟩
  refine PySem.W.callWith_KW0 (h₀ := X.base) I.ok.mod.kin hk hall (thn (hkw.run pos pins s σ H _ I h) fun ws s2 hh => ?_) hpl
  obtain ⟨zs, H2, I2, rz, l2, q2⟩ := hh
  refine ⟨I2.kIn, ?_⟩
  rw [hks]
  exact run_fnN (us := []) (vs := []) F hr hb hx I2 .nil rz rfl l2 q2
/-- two parameters by keywords, in the other order -/
theorem kb_swap {K : PySem.W.Frag} {fd : FuncData} {a b : Str}
    (h : ∀ u v : Value, bindArgs fd ⟨[], [(b, v), (a, u)]⟩ = pure [(a, u), (b, v)]) :
    KBn K fd [a, b] 0 [b, a] (fun _ ws => ws.reverse) (fun _ zs => zs.reverse) where
  to := fun s us ws _ h0 h2 => by
    match us, ws, h0, h2 with
    | [], [v, u], _, _ => exact .of_eq (h u v)
  rel := fun {vs us zs ws} _ r => by
    induction r with
    | nil => exact .nil
    | cons q _ ih =>
      rw [List.reverse_cons, List.reverse_cons]
      exact ih.append (.cons q .nil)
/-- two parameters by keywords, in their order -/
theorem kb_both {K : PySem.W.Frag} {fd : FuncData} {a b : Str}
    (h : ∀ u v : Value, bindArgs fd ⟨[], [(a, u), (b, v)]⟩ = pure [(a, u), (b, v)]) :
    KBn K fd [a, b] 0 [a, b] (fun _ ws => ws) (fun _ zs => zs) where
  to := fun s us ws _ h0 h2 => by
    match us, ws, h0, h2 with
    | [], [u, v], _, _ => exact .of_eq (h u v)
  rel := fun _ r => r
/-- the second one of two by keyword -/
theorem kb_second {K : PySem.W.Frag} {fd : FuncData} {a b : Str}
    (h : ∀ u v : Value, bindArgs fd ⟨[u], [(b, v)]⟩ = pure [(a, u), (b, v)]) :
    KBn K fd [a, b] 1 [b] (fun us ws => us ++ ws) (fun vs zs => vs ++ zs) where
  to := fun s us ws _ h0 h2 => by
    match us, ws, h0, h2 with
    | [u], [v], _, _ => exact .of_eq (h u v)
  rel := fun r1 r2 => r1.append r2
end
/-! // by any number that is not 0 -/
def CDivA (_ j : Int) : Prop := j ≠ 0 ∧ j.natAbs.log2 < 9000
theorem op_fdivA {X : Cx} : OpR X (binaryOp .FloorDiv) (rI CDivA fun i j => .int (i.fdiv j)) := opI fun i j _ _ _ _ _ hc q =>
  floordiv_int hc.1 q (.inl (PyProof.noPylong_of_log2 hc.2))
/-! which values are integers -/
inductive Kin (K : PySem.W.Frag) (H : Hp) : V → Option Int → Prop
  | int (i : Int) : Kin K H (.int i) (some i)
  | oth {x : V} {n : String} {b1 b2 : Bool} (t : TyX K H x (.type n)) (h1 : kitB n "int" = some b1) (h2 : kitB n "bool" = some b2)
      (h : (b1 && !b2) = false) : Kin K H x none
theorem Kin.ty {K : PySem.W.Frag} {H : Hp} {x : V} {o : Option Int} (k : Kin K H x o) :
    ∃ n b1 b2, TyX K H x (.type n) ∧ kitB n "int" = some b1 ∧ kitB n "bool" = some b2 ∧ (b1 && !b2) = o.isSome := by
  cases k with
  | int i => exact ⟨"int", true, false, .base (.int i), by decide +kernel, by decide +kernel, rfl⟩
  | oth t h1 h2 h => exact ⟨_, _, _, t, h1, h2, h⟩
end KX

namespace KX
open PySem PySem.Spec PyProof.Rows L2
section
variable {X : Cx} {C fI : Addr} {en qn : Str}
theorem pmk_errZ {a : Expr} {ta : TA} {p pos : Pos} {k : Nat} (T : PySem.ErrX.ErrTxt X.K X.mg en qn C fI) (hr : Room k X.A) (ha : PA X [a] ta) (hg : Gl X en := by rfl) (hdb : (en == ("__debug__" : Str)) = false := by decide)
    (he : starEach (a :: []) X.env = (false, eval a X.env) :: starEach [] X.env := by rfl) (hpl : (backTo pos (starEach [] X.env)).any (·.1) = false := by rfl) :
    L2.PMk X (.Call (.Name en p) [a] [] pos) (tMkErr C ta) := fun pins s σ H Q I h => by
  refine wpAny_mono (pmk_err T hr ha hg hdb he hpl pins s σ H Q I h) (fun u s' hu => ?_) fun _ _ x => x
  obtain ⟨a, oe, vs, sI, H', cls, d, h1, h2, h3, h4, h5, hz, h6⟩ := hu
  exact ⟨a, oe, vs, sI, H', cls, d, h1, h2, h3, h4, h5, hz.zc, h6⟩
theorem ps_raiseErrZ {a : Expr} {ta : TA} {W : WX} {p pos pos2 : Pos} {k : Nat} (hc : X.calm = true) (T : PySem.ErrX.ErrTxt X.K X.mg en qn C fI) (hr : Room k X.A) (tk : L2.Takes X W) (ha : PA X [a] ta) (hg : Gl X en := by rfl) (hdb : (en == ("__debug__" : Str)) = false := by decide)
    (he : starEach (a :: []) X.env = (false, eval a X.env) :: starEach [] X.env := by rfl) (hpl : (backTo pos (starEach [] X.env)).any (·.1) = false := by rfl) :
    PS X (.Raise (some (.Call (.Name en p) [a] [] pos)) none pos2) (tRaiseErr C W ta) := L2.ps_raise hc tk (pmk_errZ T hr ha hg hdb he hpl)
end
end KX

namespace KX
open PySem PySem.Spec PyProof.Rows L2 L2H LamX
/-! the law's own call under CG, with one table of code objects -/
section
variable {P : Program} {w : World} {K : PySem.W.Frag} {mg mb : Str → Option Value} {CX : CXT} {k : Nat} {fa a c t : Addr}
  {fd : FuncData} {x : Str} {sp : Sp} {s₁ : Shared} {vs : List Value}
/-- only the script and the table are tracked -/
structure OnlyT (H : Hp) (a t : Addr) : Prop where
  tab : H t = some (.tbl #[])
  who : ∀ b, H b ≠ none → b = a ∨ b = t
  frz : ∀ u, H a = some u → ∃ o xs, u = .frz o (.lst xs)
theorem OnlyT.off {H : Hp} {b : Addr} (O : OnlyT H a t) (h1 : b ≠ a) (h2 : b ≠ t) : H b = none :=
  Classical.byContradiction fun z => (O.who b z).elim h1 h2
theorem lawT_core {H : Hp}
    (KI : K.In s₁.heap) (hns : s₁.heap.Ns mainGlobals mg) (hb : s₁.heap.Ns builtinsNs mb)
    (hbb : ∀ x : Str, x ≠ "__name__" → mb x = bootBuiltins x) (hlim : s₁.heap.NoLimit) (hg : s₁.gens = #[])
    (ht : s₁.heap.get? t = some { cls := .none, data := .fields #[] }) (nt : K.lookup t = none) (C : PySem.W.CodeHd s₁.heap c t)
    (hbm : ∃ (bm : Addr) (ob : Obj), mg "__builtins__" = some (.ref bm) ∧ bm ≠ builtinsNs ∧ s₁.heap.get? bm = some ob ∧ ob.cls = .type "module" ∧ ob.dict = some builtinsNs ∧ ob.data = .plain)
    (ha : s₁.heap.get? a = some { cls := .type "list", data := .seq vs.toArray }) (hr : Room k callerA)
    (F : ∀ base : Heap, K.In base → base.Ns mainGlobals mg → TabB base mg c t → FnR P w K mg base CX (CG k) fa fd [x] sp)
    (hbind : ∀ (s : Shared) (u : Value), BindsTo s fd ⟨[u], []⟩ [(x, u)])
    (hCX : ∀ H e s', CX [] H s₁ (fun _ _ _ => False) e s' → False)
    (O : OnlyT H a t) (hS : sp [.ref a] H (fun v _ => v = .bl true) fun _ _ _ => False) (hok : HOk P w H s₁.heap)
    (hK : H a ≠ none → K.lookup a = none) :
    codeAny (model P w) callerA (.call (.ref fa) ⟨[.ref a], []⟩)
      (fun r s' => r = .ok (.ret (.bool true)) ∧ OldK s₁.heap s'.heap ∧ s'.os = s₁.os ∧ AllBare s'.gens) s₁ := by
  have sees : ∀ {b : Addr} {o : Obj}, s₁.heap.get? b = some o → (∀ vs n, o.data ≠ .seq vs n) → o.data ≠ .fields #[] →
      (hidT s₁.heap H).get? b = some o := fun {b o} e h1 h2 => hidT_get e (O.off (fun z => by
        subst z
        rw [ha] at e
        cases e
        exact h1 _ _ rfl) fun z => by
        subst z
        rw [ht] at e
        cases e
        exact h2 rfl)
  have nsH : ∀ {b : Addr} {m : Str → Option Value}, s₁.heap.Ns b m → (hidT s₁.heap H).Ns b m := fun {b m} n => by
    obtain ⟨o, es, ep, e, d, r⟩ := n
    exact ⟨o, es, ep, sees e (fun vs n z => by rw [d] at z; cases z) (fun z => by rw [d] at z; cases z), d, r⟩
  have KB : K.In (hidT s₁.heap H) := fun b o e => hidT_get (KI b o e) (Classical.byContradiction fun z => by
    rcases O.who b z with h | h
    · subst h
      rw [hK z] at e
      cases e
    · subst h
      rw [nt] at e
      cases e)
  have MB : Mod K mg (hidT s₁.heap H) := by
    obtain ⟨mc, h1, h2⟩ := hlim
    exact ⟨KB, nsH hns, ⟨mb, nsH hb, hbb⟩, ⟨mc, nsH h1, h2⟩⟩
  have TB : TabB (hidT s₁.heap H) mg c t := by
    refine ⟨?_, ?_, fun z => ?_⟩
    · obtain ⟨o, us, file, tf, flags, tg, inF, text, tt, e1, r1, r2, r3, rest⟩ := C
      refine ⟨o, us, file, tf, flags, tg, inF, text, tt, sees e1 (fun vs n z => ?_) (fun z => ?_), r1, r2, r3, rest⟩
      · rw [r2] at z
        cases z
      · rw [r2] at z
        cases z
        simp at r3
    · obtain ⟨bm, ob, b1, b2, b3, b4, b5, b6⟩ := hbm
      refine ⟨bm, ob, b1, b2, fun q => ?_, fun q => ?_, sees b3 (fun vs n z => by rw [b6] at z; cases z) (fun z => by rw [b6] at z; cases z), b4, b5, b6⟩
      · obtain ⟨o, es, ep, e, hd, _⟩ := hns
        rw [q, e] at b3
        cases b3
        rw [hd] at b6
        cases b6
      · rw [q, ht] at b3
        cases b3
        cases b6
    · obtain ⟨o, es, ep, e, hd, _⟩ := hns
      rw [z, ht] at e
      cases e
      cases hd
  have e0 : Env0 P w K mg (hidT s₁.heap H) callerA [] s₁ H :=
    ⟨rfl, MB, fun b o e => of_hidT e, Nat.le_of_eq (hidT_size _ _), trivial,
      fun b hb => absurd (show b ∈ ([] : List Addr) from hb) (by simp), hok, .of_eq hg⟩
  refine codeAny_mono ((F _ KB (nsH hns) TB).does callerA [] s₁ H ⟨[.ref a], []⟩ [.ref a] [.ref a] _ _ ⟨hr, rfl⟩ e0
    (hbind s₁ (.ref a)) (.cons rfl .nil) hS) fun r s' h => ?_
  match r, h with
  | .error e, h => exact (hCX H e s' h).elim
  | .ok (.ret u), h =>
    obtain ⟨v, H', os, bare, un, hok', r', q⟩ := h
    have q' : v = .bl true := q
    subst q'
    obtain rfl : u = Value.bool true := r'
    obtain ⟨more, hm⟩ : ∃ more : Array Value, s'.heap.get? t = some { cls := .none, data := .fields more } := by
      obtain ⟨more, z⟩ := un.tbls t #[] O.tab
      exact ⟨_, hok' t _ z⟩
    have other : ∀ b o, b ≠ t → s₁.heap.get? b = some o → s'.heap.get? b = some o := fun b o nb e => by
      cases q : H b with
      | none => exact un.keep b o e q (by intro z; exact absurd (show b ∈ ([] : List Addr) from z) (by simp)) (by simp)
      | some u =>
        have eb : b = a := (O.who b (by rw [q]; exact fun z => nomatch z)).resolve_right nb
        subst eb
        obtain ⟨ob, xs, rfl⟩ := O.frz _ q
        have e1 := (hok b _ q).1
        have e2 := (hok' b _ (un.frzs b ob _ q)).1
        rw [e] at e1
        cases e1
        exact e2
    refine ⟨rfl, ⟨fun b o e => ?_, fun b o e => ?_⟩, os, bare⟩
    · by_cases h : b = t
      · subst h
        rw [ht] at e
        cases e
        exact .inr (.inl ⟨(C.tab ht).isCodeTable, rfl, #[], more, rfl, by rw [Array.empty_append]; exact hm⟩)
      · exact .inl (other b o h e)
    · by_cases h : b = t
      · subst h
        exact ⟨_, hm⟩
      · exact ⟨o, other b o h e⟩
theorem law_callT {ns : List Int}
    (KI : K.In s₁.heap) (hns : s₁.heap.Ns mainGlobals mg) (hb : s₁.heap.Ns builtinsNs mb)
    (hbb : ∀ x : Str, x ≠ "__name__" → mb x = bootBuiltins x) (hlim : s₁.heap.NoLimit) (hg : s₁.gens = #[])
    (ht : s₁.heap.get? t = some { cls := .none, data := .fields #[] }) (nt : K.lookup t = none) (C : PySem.W.CodeHd s₁.heap c t)
    (hbm : ∃ (bm : Addr) (ob : Obj), mg "__builtins__" = some (.ref bm) ∧ bm ≠ builtinsNs ∧ s₁.heap.get? bm = some ob ∧ ob.cls = .type "module" ∧ ob.dict = some builtinsNs ∧ ob.data = .plain)
    (ha : s₁.heap.get? a = some { cls := .type "list", data := .seq vs.toArray }) (hi : IntsAre vs ns) (hl : ns.length ≤ sizeLine) (hr : Room k callerA)
    (F : ∀ base : Heap, K.In base → base.Ns mainGlobals mg → TabB base mg c t → FnR P w K mg base CX (CG k) fa fd [x] sp)
    (hbind : ∀ (s : Shared) (u : Value), BindsTo s fd ⟨[u], []⟩ [(x, u)])
    (hsp : ∀ H : Hp, H t = some (.tbl #[]) → SqL K H a (ns.map V.int) → sp [.ref a] H (fun v _ => v = .bl true) fun _ _ _ => False)
    (hCX : ∀ H e s', CX [] H s₁ (fun _ _ _ => False) e s' → False) :
    codeAny (model P w) callerA (.call (.ref fa) ⟨[.ref a], []⟩)
      (fun r s' => r = .ok (.ret (.bool true)) ∧ OldK s₁.heap s'.heap ∧ s'.os = s₁.os ∧ AllBare s'.gens) s₁ := by
  have rv := vals_ints hi
  have nat : a ≠ t := fun z => by
    rw [z, ht] at ha
    cases ha
  cases hk : K.lookup a with
  | some o =>
    have e := KI a o hk
    rw [ha] at e
    cases e
    let H : Hp := fun b => if b = t then some (.tbl #[]) else none
    have atT : H t = some (.tbl #[]) := if_pos rfl
    have off : ∀ {b}, b ≠ t → H b = none := fun h => if_neg h
    have S : SqL K H a (ns.map V.int) :=
      Or.inr ⟨_, vs.toArray, _, hk, rfl, rfl, rfl, by rw [List.size_toArray, hi.length]; exact hl, by simpa using rv⟩
    have O : OnlyT H a t := ⟨atT, fun b z => Or.inr (Classical.byContradiction fun h => z (off h)), fun u z => by rw [off nat] at z; cases z⟩
    refine lawT_core KI hns hb hbb hlim hg ht nt C hbm ha hr F hbind hCX O (hsp _ atT S) (fun b u z => ?_) fun z => absurd (off nat) z
    by_cases h : b = t
    · subst h
      rw [atT] at z
      cases z
      exact ht
    · rw [off h] at z
      cases z
  | none =>
    let H : Hp := fun b => if b = a then some (.frz { cls := .type "list", data := .seq vs.toArray } (.lst (ns.map V.int))) else if b = t then some (.tbl #[]) else none
    have atA : H a = some (.frz { cls := .type "list", data := .seq vs.toArray } (.lst (ns.map V.int))) := if_pos rfl
    have atT : H t = some (.tbl #[]) := (if_neg (Ne.symm nat)).trans (if_pos rfl)
    have off : ∀ {b}, b ≠ a → b ≠ t → H b = none := fun h h' => (if_neg h).trans (if_neg h')
    have S : SqL K H a (ns.map V.int) := Or.inl (Or.inr ⟨_, atA⟩)
    have O : OnlyT H a t := ⟨atT, fun b z => by
      by_cases h : b = a
      · exact Or.inl h
      · exact Or.inr (Classical.byContradiction fun h' => z (off h h')), fun u z => by rw [atA] at z; cases z; exact ⟨_, _, rfl⟩⟩
    refine lawT_core KI hns hb hbb hlim hg ht nt C hbm ha hr F hbind hCX O (hsp _ atT S) (fun b u z => ?_) fun _ => hk
    by_cases h : b = a
    · subst h
      rw [atA] at z
      cases z
      exact ⟨ha, by rw [List.length_map]; exact hl, vs, _, rv, ha⟩
    · by_cases h' : b = t
      · subst h'
        rw [atT] at z
        cases z
        exact ht
      · rw [off h h'] at z
        cases z
end
/-- what k_head leaves, by the law's promise under CG; t: the table of the law's code object -/
theorem walk_ofT {l : PySem.W.OpenLaw} {n k : Nat} {q : Program} {loose : List Str} {XP : (Str → Option Value) → Heap → Prop}
    {YP : World → Heap → Prop} {d : DefRec} {K : Params → PySem.W.Frag} {CX : CXT} {x : Str} {c t : Addr} {sp : PySem.W.Frag → Sp}
    (hn : l.most = some n) (hn2 : n ≤ sizeLine) (hdf : d.params.defaults = []) (hr : Room k callerA)
    (hY : ∀ (w : World) (h : Heap), YP w h → (K w.params).In h)
    (hT : ∀ (w : World) (h : Heap), YP w h → h.get? t = some { cls := .none, data := .fields #[] })
    (hcd : ∀ w : World, PySem.W.codeHdIn (K w.params) c t = true) (nt : ∀ w : World, (K w.params).lookup t = none)
    (F : ∀ (w : World) (mg : Str → Option Value) (fa : Addr) (h : Heap), (K w.params).In h → h.Ns mainGlobals mg →
      mg d.name = some (.ref fa) → ∃ fd : FuncData, (∀ (s : Shared) (u : Value), BindsTo s fd ⟨[u], []⟩ [(x, u)]) ∧
        ∀ base : Heap, (K w.params).In base → base.Ns mainGlobals mg → TabB base mg c t →
          FnR l.prog w (K w.params) mg base CX (CG k) fa fd [x] (sp (K w.params)))
    (hsp : ∀ (K : PySem.W.Frag) (H : Hp) (a : Addr) (ns : List Int), ns.length ≤ n → H t = some (.tbl #[]) → SqL K H a (ns.map V.int) →
      sp K [.ref a] H (fun v _ => v = .bl true) fun _ _ _ => False)
    (hCX : ∀ (H : Hp) (s : Shared) (e : Value) (s' : Shared), CX [] H s (fun _ _ _ => False) e s' → False) :
    PySem.W.WalkO q loose XP YP l.row.toRowW d [] (fun f vs => PySem.call f vs) := by
  refine Att.attach_call hn hdf fun w s₀ s₁ mg mb fa o pm cd doc a vs ns G Y ho hd hcd' hmg hobj hints hlen hg => ?_
  have KI := hY w _ Y
  obtain ⟨fd, hb, hF⟩ := F w mg fa _ KI G.T.g hmg
  exact law_callT KI G.T.g G.T.b G.T.builtins G.T.nolimit hg (hT w _ Y) (nt w) (PySem.W.codeHd_of_K KI (hcd w)) G.T.bmain hobj hints (Nat.le_trans hlen hn2) hr hF hb
    (fun H hH hS => hsp (K w.params) H a ns hlen hH hS) fun H e s' => hCX H s₁ e s'
end KX

namespace KX
open PySem PySem.Spec PyProof.Rows L2
/-! lists or tuples walked -/
theorem PI.or {X : Cx} {tg l : Expr} {w1 w2 : TI} (h1 : PI X tg l w1) (h2 : PI X tg l w2) :
    PI X tg l (fun σ H R => w1 σ H R ∨ w2 σ H R) :=
  ⟨fun pins s σ H R I h => h.elim (h1.run pins s σ H R I) (h2.run pins s σ H R I)⟩
theorem CallR.or {X : Cx} {f : Value} {r1 r2 : List V → Hp → VK → Prop} (h1 : CallR X f r1) (h2 : CallR X f r2) :
    CallR X f (fun xs H Q => r1 xs H Q ∨ r2 xs H Q) :=
  fun pins s σ H xs us Q I r h => h.elim (h1 pins s σ H xs us Q I r) (h2 pins s σ H xs us Q I r)
/-! sorted of a tuple of ints -/
section
variable {prog : Program} {w : World} {A : Around} {s : Shared} {E : Value → Shared → Prop}
theorem collect_tup {l : Addr} {vs : List Value} {n : Nat} {dd : Option Addr} {sl : Array (Option Value)}
    {Q : List Value → Shared → Prop}
    (hl : s.heap.get? l = some ⟨.type "tuple", dd, .seq vs.toArray n, sl⟩) (hz : vs.length ≤ sizeLine)
    (h : Q vs { s with heap := ((s.heap.push (seqObj "list" #[] 0)).update
      s.heap.objs.size (Obj.mapSeq (· ++ vs.toArray))) }) :
    wpAny (model prog w) A (collect (.ref l)) Q E s := by
  unfold collect
  apply wpAny_bind
  apply wpAny_runValue
  refine codeAny_builtin
    entry_proto_collect' ?_
  show wpAny _ _ (do
    again (.builtin "list.__iadd__" ⟨[← newList [], .ref l], []⟩)) _ _ s
  apply wpAny_bind
  refine wpAny_newList
    (wpAny_pure ⟨Code.quiet_builtin _ (by decide +kernel), ?_⟩)
  refine codeAny_builtin
    entry_list_iadd' ?_
  show wpAny _ _
    (Builtin.List.listExtendWith (.ref s.heap.objs.size) (.ref l) (.ref s.heap.objs.size)) _ _
    { s with heap := s.heap.push (seqObj "list" #[] 0) }
  unfold Builtin.List.listExtendWith
  have hl' : (s.heap.push (seqObj "list" #[] 0)).get? l = some ⟨.type "tuple", dd, .seq vs.toArray n, sl⟩ :=
    Heap.get?_push_of_some _ hl
  apply wpAny_bind
  refine wpAny_typeOf (T := "tuple")
    ⟨_, hl', rfl⟩ ?_
  have ht : (Value.type "tuple" == Value.type "tuple") = true := by rfl
  rw [if_pos (by rw [ht]; simp)]
  apply wpAny_bind
  refine listItems_at hl' rfl ?_
  apply wpAny_bind
  have hn : (s.heap.push (seqObj "list" #[] 0)).get? s.heap.objs.size = some (seqObj "list" #[] 0) :=
    Heap.get?_push_size _ rfl
  refine listItems_at (xs := #[]) (n := 0) hn rfl ?_
  rw [if_neg (by simp)]
  apply wpAny_bind
  refine listUpdate_at (xs := #[]) (n := 0) hn rfl ?_ (Nat.zero_le _)
    (by
      show (#[] ++ vs.toArray).size ≤ sizeLine + 1
      simp only [Array.size_append, List.size_toArray, List.length_nil]
      omega)
  apply wpAny_pure
  show wpAny (model prog w) A (do
      match (← load s.heap.objs.size).data with
      | .seq xs _ => pure xs.toList
      | _ => unsupported "internal:collect") Q E
    { s with heap := ((s.heap.push (seqObj "list" #[] 0)).update
      s.heap.objs.size (Obj.mapSeq (· ++ vs.toArray))) }
  apply wpAny_bind
  refine wpAny_load (get?_update_seq hn _) ?_
  show wpAny _ _ (pure ((#[] : Array Value) ++ vs.toArray).toList) Q E _
  have e : ((#[] : Array Value) ++ vs.toArray).toList = vs := by simp
  rw [e]
  exact wpAny_pure h
theorem sorted_tup {l : Addr} {vs : List Value} {ns : List Int} {n : Nat} {dd : Option Addr} {sl : Array (Option Value)}
    {Q : Value → Shared → Prop}
    (hl : s.heap.get? l = some ⟨.type "tuple", dd, .seq vs.toArray n, sl⟩) (hI : IntsAre vs ns) (h64 : vs.length < 64)
    (h : ∀ (out : Array Value) (ns' : List Int), IntsAre out.toList ns' → ns'.Perm ns → ns'.Pairwise (· ≤ ·) →
      Q (.ref (s.heap.objs.size + 1)) { s with heap := sortedAll s.heap vs out }) :
    wpAny (model prog w) A (call (.builtin "sorted") [.ref l]) Q E s := by
  refine Calls.call_function_entry
    kind_sorted plain_sorted entry_sorted (args_sorted1 _) ?_
  unfold Builtin.«sorted»
  refine wpAny_bind (m := checkCount "sorted" 1 1 _)
    (wpAny_pure ?_)
  apply wpAny_bind
  refine collect_tup hl (Nat.le_of_lt (Nat.lt_trans h64 (by decide))) ?_
  apply wpAny_bind
  refine wpAny_newList ?_ (hsz := Nat.le_of_lt (Nat.lt_trans h64 (by decide)))
  have hs2 : ((s.heap.push (seqObj "list" #[] 0)).update s.heap.objs.size
      (Obj.mapSeq (· ++ vs.toArray))).objs.size = s.heap.objs.size + 1 := by
    rw [Heap.size_update]
    exact Heap.size_push ..
  have ho : (((s.heap.push (seqObj "list" #[] 0)).update s.heap.objs.size
      (Obj.mapSeq (· ++ vs.toArray))).push (seqObj "list" vs.toArray 0)).get? (s.heap.objs.size + 1) =
      some (seqObj "list" vs.toArray 0) := by
    rw [← hs2]
    exact Heap.get?_push_size _ rfl
  show wpAny _ _ _ _ _
    { s with heap := (((s.heap.push (seqObj "list" #[] 0)).update s.heap.objs.size
      (Obj.mapSeq (· ++ vs.toArray))).push (seqObj "list" vs.toArray 0)) }
  rw [hs2]
  apply wpAny_bind
  apply wpAny_holding
  refine wpAny_call_entry slot_list_sort ⟨_, ho, rfl⟩ entry_list_sort ?_ (args_list_sort _)
  refine list_sort_tree ho hI h64 fun out ns' a1 a2 a3 => ⟨_, rfl, ?_⟩
  exact wpAny_pure ⟨_, rfl, h out ns' a1 a2 a3⟩
end
def rSortT (K : PySem.W.Frag) : List V → Hp → VK → Prop := fun vs H Q =>
  ∃ (a : Addr) (ns : List Int), vs = [V.ref a] ∧ SqT K H a (ns.map V.int) ∧ ns.length < 64 ∧
    ∀ (ns' : List Int) (p : Addr), ns'.Perm ns → ns'.Pairwise (· ≤ ·) → H p = none →
      Q (.ref p) (upd H p (.lst (ns'.map V.int)))
theorem cr_sortT {X : Cx} : CallR X (.builtin "sorted") (rSortT X.K) := by
  intro pins s σ H vs us Q I r h
  obtain ⟨a, ns, rfl, hs, h64, q⟩ := h
  obtain ⟨its, rv, ⟨⟨cls, dd, data, sl⟩, ho, hc, n, hd⟩, _⟩ := I.tuple hs
  simp only at hc hd
  subst hc hd
  rw [Vals.ref1 r]
  have hi := rv.ints
  refine sorted_tup ho hi (by rw [hi.length]; exact h64) fun out ns' h1 h2 h3 => ?_
  obtain ⟨ep, he⟩ := sortedAll_at s.heap its out
  have hlen : (ns'.map V.int).length ≤ sizeLine := by
    rw [List.length_map, h2.length_eq]
    exact Nat.le_of_lt (Nat.lt_trans h64 (by decide))
  refine ⟨.ref _, upd H (s.heap.objs.size + 1) (.lst (ns'.map V.int)), ?_, rfl,
    q ns' _ h2 h3 (I.hok.fresh (Nat.le_succ _))⟩
  exact I.laid (t' := s.toks) (fun _ _ => sortedAll_old) (Nat.le_succ _)
    ⟨hlen, out.toList, ep, vals_of_ints h1, he⟩
/-! t.count(k) of a tuple of ints -/
def rCntT (K : PySem.W.Frag) : V → List V → Hp → VK → Prop := fun x xs H Q =>
  ∃ (p : Addr) (ns : List Int) (k : Int), x = .ref p ∧ xs = [.int k] ∧ SqT K H p (ns.map V.int) ∧
    Q (.int (ns.count k : Nat)) H
theorem mt_tcount {X : Cx} : MtR X "tuple.count" (rCntT X.K) := by
  intro pins s σ H x xs v us Q I rx rxs h
  obtain ⟨p, ns, k, rfl, rfl, hs, q⟩ := h
  cases rx
  obtain ⟨u, rfl, ru⟩ := rxs.one
  obtain ⟨t, rfl⟩ := ru
  obtain ⟨its, rv, ⟨⟨cls, dd, data, sl⟩, ho, hc, n, hd⟩, _⟩ := I.tuple hs
  simp only at hc hd
  subst hc hd
  have hi := ints_of_vals rv
  refine call_meets PySem.F.slot_tuple_count ⟨_, ho, rfl⟩ PySem.F.entry_tuple_count
    (PySem.F.args_tuple_count_2 _ _) (SeqAt.tuple_countAt p its.toArray n dd sl (.int k t) (eqk k)) ⟨ho, ?_, ?_⟩
  · exact fun y hy => (eqk_gives hi y (by simpa using hy)).at _ _
  · have ec : its.toArray.toList.countP (eqk k) = ns.count k := eqk_count hi
    refine ⟨.int (ns.count k : Nat), H, I.tok _, ⟨s.toks, ?_⟩, q⟩
    show Value.int ((its.toArray.toList.countP (eqk k) : Nat) : Int) s.toks = _
    rw [ec]
end KX

namespace KX
open PySem PySem.Spec PyProof.Rows L2
/-! a tuple, frozen or not -/
abbrev Tup (H : Hp) (a : Addr) (xs : List V) : Prop := Rd H a (.tup xs)
theorem Tup.of {H : Hp} {a : Addr} {xs : List V} (h : H a = some (.tup xs)) : Tup H a xs := Or.inl h
theorem Tup.sq {K : PySem.W.Frag} {H : Hp} {a : Addr} {xs : List V} (h : Tup H a xs) : SqT K H a xs := Or.inl h
theorem Tup.ty {K : PySem.W.Frag} {H : Hp} {a : Addr} {xs : List V} (h : Tup H a xs) : TyX K H (.ref a) (.type "tuple") := by
  rcases h with h | ⟨o, h⟩
  · exact .base (.tup h)
  · exact .fTuple h
theorem Tup.same {H H' : Hp} {a : Addr} {xs : List V} (h : Tup H a xs) (s : Same H H') : Tup H' a xs := by
  rcases h with h | ⟨o, h⟩
  · exact Or.inl (s _ _ h)
  · exact Or.inr ⟨o, s _ _ h⟩
/-- a tuple whose object is known: without a dict -/
def TupF (H : Hp) (a : Addr) (xs : List V) : Prop := ∃ o : Obj, H a = some (.frz o (.tup xs)) ∧ o.cls = .type "tuple" ∧ o.dict = none
theorem TupF.tup {H : Hp} {a : Addr} {xs : List V} (h : TupF H a xs) : Tup H a xs := by
  obtain ⟨o, h, _⟩ := h
  exact Or.inr ⟨o, h⟩
theorem TupF.same {H H' : Hp} {a : Addr} {xs : List V} (h : TupF H a xs) (s : Same H H') : TupF H' a xs := by
  obtain ⟨o, h, z⟩ := h
  exact ⟨o, s _ _ h, z⟩
section
variable {X : Cx}
/-- tuple(l), l a list: the new tuple's object is known -/
def kTupF (K : PySem.W.Frag) (x : V) (H : Hp) (Q : VK) : Prop := ∃ p xs, x = .ref p ∧ SqL K H p xs ∧
  ∀ q (o : Obj), H q = none → o.cls = .type "tuple" → o.dict = none → Q (.ref q) (upd H q (.frz o (.tup xs)))
theorem pe_tupleF {a : Expr} {ta : TE} {p pos : Pos} (hg : Gl X "tuple") (hm : X.mg "tuple" = none) (ha : PE X a ta)
    (na : starEach [a] X.env = (false, eval a X.env) :: starEach [] X.env := by rfl) :
    PE X (.Call (.Name "tuple" p) [a] [] pos) (tThen ta (kTupF X.K)) := by
  refine ⟨fun pins s σ H Q I h => Call_ (ld_blt I hg hm boot_tuple (PyProof.Rows.callWith_type1 (one_arg ha I h (fun v s2 x H2 I2 r q => ?_) na) na))⟩
  obtain ⟨l, xs, rfl, hs, hq⟩ := q
  obtain rfl : v = .ref l := r
  obtain ⟨its, rv, pl, hz⟩ := I2.list hs
  have hsz : its.toArray.size ≤ sizeLine := by
    rw [List.size_toArray, ← rv.length]
    exact hz
  refine call_tuple_list pl.isList (fun h' hk => ?_) hsz
  have J : Inv X pins σ H2 { s2 with heap := h' } := I2.kept (t' := s2.toks) hk
  have nq : H2 h'.objs.size = none := J.hok.fresh (Nat.le_refl _)
  refine ⟨.ref h'.objs.size, _, J.laid (t' := s2.toks) (fun b o e => Heap.get?_push_of_some _ e) (Nat.le_refl _) ?_, rfl,
    hq h'.objs.size { cls := .type "tuple", data := .seq its.toArray } nq rfl rfl⟩
  exact ⟨Heap.get?_push_size _ rfl, hz, its, rv, IsTup.new _ _⟩
/-- a method of such a tuple, called -/
def tBMF (r : V → List V → Hp → VK → Prop) (to : TE) (t : TA) : TE := fun σ H Q =>
  to σ H fun x H1 => (∃ a xs, x = .ref a ∧ TupF H1 a xs) ∧ t σ H1 fun ys H2 => r x ys H2 Q
theorem pe_bmF {o e : Expr} {to : TE} {t : TA} {name : Str} {apos cpos : Pos} {id : String} {r : V → List V → Hp → VK → Prop}
    (slot : Slot "tuple" name id) (hty : typeOf (.builtin id) = pure (.type "method_descriptor")) (hm : MtR X id r) (ho : PE X o to) (ha : PA X [e] t)
    (hbase : attributeBase o name X.env (eval o X.env) = eval o X.env := by rfl)
    (hfew : ((backTo cpos (starEach [e] X.env)).all (fun x => !x.1) && (backToKw cpos (keywordEach [] X.env)).all (fun x => x.1.isSome)
      && decide ([e].length + ([] : List Keyword).length + (if ([] : List Keyword).isEmpty then 0 else 1) < 30)) = true := by rfl)
    (hline : (apos.endLine == cpos.line) = true := by rfl)
    (hs : starEach [e] X.env = (false, eval e X.env) :: starEach [] X.env := by rfl) (hplain : (backTo cpos (starEach [] X.env)).any (·.1) = false := by rfl) :
    PE X (.Call (.Attribute o name apos) [e] [] cpos) (tBMF r to t) := by
  constructor
  intro pins s σ H Q I h
  refine wpAny_Call_method_late hbase hfew hline rfl (thn (ho.run pins s σ H _ I h) fun v s1 hh => ?_)
  obtain ⟨x, H1, I1, r1, ⟨a, xs, rfl, ob, hob, hc, hd⟩, q1⟩ := hh
  obtain rfl : v = .ref a := r1
  have hget : s1.heap.get? a = some ob := (I1.hok a _ hob).1
  refine ⟨"tuple", id, PySem.F.plainAttrs_tuple, slot, hty, ⟨ob, hget, hc⟩, fun b z => by cases z; exact ⟨ob, hget, hd⟩, ?_⟩
  have hA := ha.run cpos pins s1 σ H1 _ I1 q1
  rw [hs] at hA ⊢
  refine Calls.callWith_builtin (by
    show (false || (backTo cpos (starEach [] X.env)).any (·.1)) = false
    rw [hplain] <;> rfl) (Calls.evalArgs_plain ?_)
  refine thn hA fun us s2 hz => ?_
  obtain ⟨vs, H2, I2, r2, q2⟩ := hz
  exact hm pins s2 σ H2 (.ref a) vs (.ref a) us Q I2 rfl r2 q2
end
end KX

namespace KX
open PySem PySem.Spec PyProof.Rows L2
/-! t + u and t[lo:hi] of tuples, by what they hold -/
theorem Same.fresh {H : Hp} {a : Addr} {o : HO} (n : H a = none) : Same H (upd H a o) := fun b u h => by
  rw [upd_ne (fun z => by rw [z, n] at h; cases h)]
  exact h
def rCatW : R2 := fun x y H Q => ∃ a b xs ys, x = .ref a ∧ y = .ref b ∧ Tup H a xs ∧ Tup H b ys ∧ xs.length + ys.length ≤ sizeLine ∧
  ∀ H' p, Same H H' → Tup H' p (xs ++ ys) → Q (.ref p) H'
theorem op_catW {X : Cx} : OpR X (binaryOp .Add) rCatW := by
  intro pins s σ H x y v u Q I rx ry h
  obtain ⟨a, b, xs, ys, e1, e2, ha, hb, hz, q⟩ := h
  refine op_catA pins s σ H x y v u Q I rx ry ⟨a, b, xs, ys, e1, e2, ha.sq, hb.sq, hz, fun e => ?_, fun _ e => ?_, fun _ _ p hp => ?_⟩
  · subst e
    exact q H b (Same.refl H) hb
  · subst e
    exact q H a (Same.refl H) (by rw [List.append_nil]; exact ha)
  · exact q _ p (Same.fresh hp) (Tup.of upd_same)
def rSlW : V → Option Int → Option Int → Hp → VK → Prop := fun x lo hi H Q => ∃ a xs, x = .ref a ∧ Tup H a xs ∧
  ∀ H' p, Same H H' → Tup H' p (cutV xs lo hi) → Q (.ref p) H'
theorem sl_tupW {X : Cx} : SlR X rSlW := by
  intro pins s σ H x v vl vu lo hi sl Q I rx hs pl pu h
  obtain ⟨a, xs, e1, ha, q⟩ := h
  refine sl_tupA pins s σ H x v vl vu lo hi sl Q I rx hs pl pu ⟨a, xs, e1, ha.sq, fun e => ?_, fun _ p hp => q _ p (Same.fresh hp) (Tup.of upd_same)⟩
  refine q H a (Same.refl H) ?_
  have z : cutV xs lo hi = xs := by
    unfold cutV
    rw [e.1, e.2]
    simp
  rw [z]
  exact ha
theorem cut_take (xs : List V) {i : Int} (h0 : 0 ≤ i) (h1 : i ≤ xs.length) : cutV xs none (some i) = xs.take i.toNat := by
  obtain ⟨n, rfl⟩ := Int.eq_ofNat_of_zero_le h0
  unfold cutV
  rw [HT.sIx_none, HT.sIx_nat]
  have : min n xs.length = n := by omega
  rw [this]
  simp
theorem cut_drop (xs : List V) {i : Int} (h0 : 0 ≤ i) (h1 : i ≤ xs.length) : cutV xs (some i) none = xs.drop i.toNat := by
  obtain ⟨n, rfl⟩ := Int.eq_ofNat_of_zero_le h0
  unfold cutV
  rw [HT.sIx_none, HT.sIx_nat]
  have : min n xs.length = n := by omega
  rw [this]
  have e : (xs.drop n).take (xs.length - n) = xs.drop n := List.take_of_length_le (by simp)
  simpa using e
end KX

namespace KX
open PySem PySem.Spec PyProof.Rows L2
/-! own == and != of instances, the other side of any class that is not below -/
theorem slot_objNe : Slot "object" "__ne__" "object.__ne__" :=
  Slot.of (T := "object") (name := "__ne__") (owner := "object") (n := "__ne__") (by rw [typeLookup_type, builtinLookup_eq_fast]; kernel_rfl) (by decide +kernel) (by decide +kernel) (by decide +kernel)
    (.inl (by decide +kernel)) (by rw [isSubtype_type]; kernel_rfl)
section
variable {prog : Program} {w : World} {A : Around} {E : Value → Shared → Prop} {s : Shared} {K : PySem.W.Frag} {x C L f : Addr} {ox : Obj} {od : Option Obj} {b tb : Value}
theorem objNe_K (X : K.In s.heap) (I : PySem.W.InstAt s.heap x ox C od) (hu : A.units < cLine) (hs : PySem.W.findIn K (.ref C) "__eq__" = some (some (.ref f))) (hf : PySem.W.isFn K (.ref f) = true) {Q : Fin → Shared → Prop}
    (hcall : wpAny (model prog w) A (call (.ref f) [.ref x, b]) (fun v s' => ∃ c, v = .bool c ∧ Q (.done (.ret (.bool (!c)))) s') E s) :
    wpAny (model prog w) A (Builtin.«object.__ne__» ⟨[.ref x, b], []⟩) Q E s := by
  unfold Builtin.«object.__ne__»
  repeat (first
    | with_reducible refine wpAny_cRoomFor hu ?_
    | (refine wpAny_bind (m := callSpecialIfBound? (.ref x) (Str.ofString "__eq__") [b])
        (PySem.W.ifBound_K X I hs hf (wpAny_mono hcall (fun r s' hr => by
          obtain ⟨c, rfl, hq⟩ := hr
          repeat (first | exact hq | exact wpAny_pure hq | exact wpAny_truthy_bool hq | (refine wpAny_bind (m := truthy (.bool _)) (wpAny_truthy_bool ?_)) | wp_step)) fun _ _ e => e)))
    | wp_step)
theorem ne_K {Q : Value → Shared → Prop} (hu : A.units + 1 < cLine) (X : K.In s.heap) (I : PySem.W.InstAt s.heap x ox C od) (hb : PySem.W.Looks (model prog w) s.heap (typeOf b) tb) (hn : PySem.W.notFirst K C tb = true)
    (hne : PySem.W.findIn K (.ref C) "__ne__" = some (some (.builtin "object.__ne__"))) (hm : PySem.W.mroIn K C (.type "object") = some true)
    (hs : PySem.W.findIn K (.ref C) "__eq__" = some (some (.ref f))) (hf : PySem.W.isFn K (.ref f) = true)
    (hcall : wpAny (model prog w) A.in1 (call (.ref f) [.ref x, b]) (fun v s' => ∃ c, v = .bool c ∧ Q (.bool (!c)) s') E s) :
    wpAny (model prog w) A (richCompare .NotEq (.ref x) b) Q E s := by
  have sub : PySem.W.Looks (model prog w) s.heap (isInstance (.ref x) (.type "object")) true := I.type.andThen (PySem.W.looks_mroIn X hm)
  have one : wpAny (model prog w) A (tryCompare (.ref x) "__ne__" b) (fun r s' => ∃ v, r = some v ∧ Q v s') E s := by
    unfold tryCompare
    refine wpAny_bind ?_
    simp only [callSpecialIfBound?, bindSpecialIfBound?]
    refine wpAny_holding (wpAny_bind (wpAny_bind (wpAny_bind (I.type.here ((PySem.W.looks_findIn X hne).here ?_)))))
    have fin : ∀ Q2 : Option Value → Shared → Prop, (∀ c s', Q (.bool (!c)) s' → Q2 (some (.bool (!c))) s') → wpAny (model prog w) A (call (.builtin "object.__ne__") ([.ref x] ++ [b]) >>= fun v => pure (some v)) Q2 E s := fun Q2 hQ2 => by
      refine wpAny_bind (wpAny_call (codeAny_call_builtin slot_objNe.plain F.cmpEntry_ne (PySem.W.check_slot F.cmpKind_ne F.cmpSplit_ne sub (F.cmpArgs_ne _ _) ?_)))
      refine objNe_K (A := A.in1) X I (Nat.lt_of_le_of_lt (by simp [Around.in1]) hu) hs hf (wpAny_mono hcall (fun v s' hv => ?_) fun _ _ e => e)
      obtain ⟨c, rfl, hq⟩ := hv
      exact ⟨c, rfl, wpAny_pure (hQ2 c s' hq)⟩
    refine wpAny_bind (wpAny_askSetting (wpAny_ite ?_))
    split
    · refine wpAny_bind ?_
      rw [slot_objNe.bind]
      exact wpAny_pure (wpAny_pure (fin _ fun c s' hq => wpAny_pure ⟨_, rfl, hq⟩))
    · refine wpAny_tryCatch (wpAny_bind ?_)
      rw [slot_objNe.bind]
      exact wpAny_pure (wpAny_pure (fin _ fun c s' hq => wpAny_pure ⟨_, rfl, hq⟩))
  unfold richCompare
  simp only [oneThing_ref]
  refine wpAny_holding (wpAny_bind (wpAny_cRoomFor (Nat.lt_of_succ_lt hu) ?_))
  refine wpAny_bind (I.type.here (wpAny_bind (hb.here ?_)))
  split
  · rename_i q
    have e : PySem.W.subIn K tb (.ref C) = some false := by
      rcases Bool.or_eq_true_iff.mp hn with e | e
      · rw [beq_iff_eq.mp e] at q; simp at q
      · exact beq_iff_eq.mp e
    refine wpAny_bind ((PySem.W.looks_subIn X e).here ?_)
    simp only [Bool.false_eq_true, if_false]
    refine wpAny_bind (wpAny_mono one (fun r s' z => ?_) fun _ _ e => e)
    obtain ⟨v, rfl, hq⟩ := z
    exact wpAny_pure hq
  · refine wpAny_bind (wpAny_pure ?_)
    simp only [Bool.false_eq_true, if_false]
    refine wpAny_bind (wpAny_mono one (fun r s' z => ?_) fun _ _ e => e)
    obtain ⟨v, rfl, hq⟩ := z
    exact wpAny_pure hq
end
/-- x == y, x != y: x an instance of the class at C with an own == that answers a bool -/
def rOwnC (K : PySem.W.Frag) (C : Addr) (sp : Sp) (neg : Bool) : R2 := fun x y H Q => ∃ a dx fs tb, x = .ref a ∧ H a = some (.ins C dx fs) ∧ TyX K H y tb ∧ PySem.W.notFirst K C tb = true ∧
  sp [x, y] H (fun z H' => ∃ c, z = .bl c ∧ Q (.bl (neg != c)) H') E0
/-- what of the class must be known -/
structure OwnC (K : PySem.W.Frag) (C f : Addr) : Prop where
  eq : PySem.W.findIn K (.ref C) "__eq__" = some (some (.ref f))
  fn : PySem.W.isFn K (.ref f) = true
  ne : PySem.W.findIn K (.ref C) "__ne__" = some (some (.builtin "object.__ne__"))
  top : PySem.W.mroIn K C (.type "object") = some true
section
variable {X : Cx} {C f : Addr} {fd : FuncData} {ps : List Str} {sp : Sp} {n : Nat}
theorem own_run (F : FnOk X.prog X.w X.K X.mg X.base CX0 n f fd ps sp) (hb : Binds X.K fd ps []) {A : Around} (hr : Room n A) (hA : A.frames = X.A.frames) {pins : List (Addr × Obj)} {s : Shared} {σ : L2.St} {H : Hp} {a : Addr} {y : V} {u : Value} {Q : VK}
    (I : Inv X pins σ H s) (ry : RelV y u) (h : sp [.ref a, y] H Q E0) : wpAny (model X.prog X.w) A (call (.ref f) [.ref a, u]) (EP X pins σ Q) X.xe s := by
  have e0 : Env0 X.prog X.w X.K X.mg X.base A X.stack s H := by
    have e := I.env0
    exact ⟨by rw [hA]; exact e.frames, e.mod, e.bs, e.bsz, e.funs, e.frf, e.hok, e.bare⟩
  have hl := F.len _ _ _ _ h
  have r2 : Vals [V.ref a, y] [Value.ref a, u] := .cons rfl (.cons ry .nil)
  refine wpAny_call (codeAny_mono (F.run A X.stack s H ⟨[.ref a, u], []⟩ [.ref a, u] [.ref a, y] _ E0 hr e0 (by
    have := hb s [.ref a, u] I.kIn (by simpa using hl)
    simpa using this) r2 h) fun r s' hq => ?_)
  cases r with
  | error e => exact (pass0 pins σ H s e s' I hq)
  | ok fl =>
    cases fl with
    | ret w => exact I.after hq
    | next => exact False.elim hq
    | brk => exact False.elim hq
    | cont => exact False.elim hq
theorem op_ownEq (O : OwnC X.K C f) (F : FnOk X.prog X.w X.K X.mg X.base CX0 n f fd ps sp) (hb : Binds X.K fd ps []) (hr : Room n X.A) : OpR X (compareOp .Eq) (rOwnC X.K C sp false) := by
  intro pins s σ H x y v u Q I rx ry h
  obtain ⟨a, dx, fs, tb, rfl, ha, ty, hn, q⟩ := h
  cases rx
  obtain ⟨mA, J, _⟩ := ins_get I.hok ha
  obtain ⟨od, J, _⟩ := J.look
  obtain ⟨m, hF⟩ := I.fr
  obtain ⟨P, Z, p, _⟩ := kit_of I ry ty
  show wpAny (model X.prog X.w) X.A (richCompare .Eq (.ref a) u) (EP X pins σ Q) X.xe s
  refine PySem.W.cmp_K (op := .Eq) (tb := tb) hr.units0 hF I.ok.mod.kin J (Z.ty _ _ I.kIn p) hn O.eq O.fn ?_
  refine wpAny_mono (own_run F hb hr rfl I ry q) (fun r s' z => ?_) fun _ _ x => x
  obtain ⟨z, H', I', rz, c, e, q'⟩ := z
  subst e
  obtain rfl : r = Value.bool c := rz
  have e : (false != c) = c := by cases c <;> rfl
  rw [e] at q'
  exact ⟨.bl c, H', I', rfl, q'⟩
theorem op_ownNe (O : OwnC X.K C f) (F : FnOk X.prog X.w X.K X.mg X.base CX0 n f fd ps sp) (hb : Binds X.K fd ps []) (hr : Room (n + 1) X.A) : OpR X (compareOp .NotEq) (rOwnC X.K C sp true) := by
  intro pins s σ H x y v u Q I rx ry h
  obtain ⟨a, dx, fs, tb, rfl, ha, ty, hn, q⟩ := h
  cases rx
  obtain ⟨mA, J, _⟩ := ins_get I.hok ha
  obtain ⟨od, J, _⟩ := J.look
  obtain ⟨P, Z, p, _⟩ := kit_of I ry ty
  show wpAny (model X.prog X.w) X.A (richCompare .NotEq (.ref a) u) (EP X pins σ Q) X.xe s
  refine ne_K (by have := hr.units; omega) I.kIn J (Z.ty _ _ I.kIn p) hn O.ne O.top O.eq O.fn ?_
  refine wpAny_mono (own_run F hb hr.in1 rfl I ry q) (fun r s' z => ?_) fun _ _ x => x
  obtain ⟨z, H', I', rz, c, e, q'⟩ := z
  subst e
  obtain rfl : r = Value.bool c := rz
  have e : (true != c) = !c := by cases c <;> rfl
  rw [e] at q'
  exact ⟨c, rfl, .bl (!c), H', I', rfl, q'⟩
end
end KX

/-! enumerate(t) of a tuple -/
namespace PySem
open Sem (wp)
theorem meets_enumerate_new1B {v : Value} {o : Obj} {H : Heap → Prop} (B : Begins v o H) :
    Meets (Builtin.«enumerate.__new__» ⟨[.type "enumerate", v], []⟩) (fun _ R s => H s.heap ∧
      R (.ok (.ret (.ref (s.heap.push o).objs.size))) { s with heap := (s.heap.push o).push { cls := .type "enumerate", data := .fields #[.none, .bool false, .ref s.heap.objs.size, rawInt 0, .none, .none] } }) :=
  .of_wp fun prog w A R s h => by
    obtain ⟨hp, g, d, tk, os⟩ := s; obtain ⟨h1, h⟩ := h
    have hsub := sub_enumerate
    have q1 : ∀ {A' : Around} {E : Value → Shared → Prop} {Q : Value → Shared → Prop}, Q (.ref hp.objs.size) ⟨hp.push o, g, d, tk, os⟩ → wpAny (model prog w) A' (pyIter v) Q E ⟨hp, g, d, tk, os⟩ :=
      fun q => B.iter prog w _ _ ⟨hp, g, d, tk, os⟩ _ h1 q
    wp_walk using q1
    refine wpAny_stack_any fun st => wpAny_pure ?_
    split
    · rename_i c _ _ _ _ _
      cases (c == Value.type "enumerate")
      · wp_walk using q1
        exact ⟨_, rfl, h⟩
      · wp_walk using q1
        exact ⟨_, rfl, h⟩
    · wp_walk using q1
      exact ⟨_, rfl, h⟩
section
variable {prog : Program} {w : World} {A : Around} {E : Value → Shared → Prop} {s : Shared}
/-- enumerate(v): its two new cells -/
theorem enum_begins1 {v : Value} {o : Obj} {H : Heap → Prop} {Q : Value → Shared → Prop} (B : Begins v o H) (h1 : H s.heap)
    (h : ∀ h', IsEnum h' (s.heap.objs.size + 1) s.heap.objs.size 0 .none → h'.get? s.heap.objs.size = some o → h'.objs.size = s.heap.objs.size + 2 →
      (∀ b o, s.heap.get? b = some o → h'.get? b = some o) → Q (.ref (s.heap.objs.size + 1)) { s with heap := h' }) :
    wpAny (model prog w) A (call (.type "enumerate") [v]) Q E s := by
  refine callType_new F.called_enumerate (by decide) (F.typeCall_enumerate_1 _) (F.newCall_enumerate_1 _) (fun obj => F.args_object_init_2 obj _) F.entry_enumerate_new
    (meets_enumerate_new1B B) ⟨h1, ?_⟩
  have hz : (s.heap.push o).objs.size = s.heap.objs.size + 1 := Heap.size_push ..
  show _ ∧ _
  rw [hz]
  have he : IsEnum ((s.heap.push o).push { cls := .type "enumerate", data := .fields #[.none, .bool false, .ref s.heap.objs.size, rawInt 0, .none, .none] }) (s.heap.objs.size + 1) s.heap.objs.size 0 .none := by
    have := Heap.get?_push_size (s.heap.push o) (o := { cls := .type "enumerate", data := .fields #[.none, .bool false, .ref s.heap.objs.size, rawInt 0, .none, .none] }) rfl
    rw [hz] at this; exact this
  refine ⟨⟨_, he, rfl⟩, h _ he (Heap.get?_push_of_some _ (Heap.get?_push_size _ B.free)) (by rw [Heap.size_push, hz]) fun b o x => Heap.get?_push_of_some _ (Heap.get?_push_of_some _ x)⟩
end
end PySem
namespace KX
open PySem PySem.Spec PyProof.Rows L2
/-- the tuple at a as it stands at each turn, each item in a new pair -/
def Itn (K : PySem.W.Frag) (a : Addr) : It :=
  ⟨fun i H => ∃ (xs : List V) (x : V), SqT K H a xs ∧ xs[i]? = some x, fun i H v H' => ∃ T x, v = .ref T ∧ H T = none ∧ H' = upd H T (.tup [.int (i : Nat), x]) ∧ ∀ xs, SqT K H a xs → xs[i]? = some x, fun i H => ∃ xs : List V, SqT K H a xs ∧ xs.length ≤ i⟩
theorem apart_tup {h : Heap} {a it : Addr} {its : Array Value} {i : Nat} (p : h.IsTuple a its) (q : h.IsTupleIter it a i) : a ≠ it := fun z => by
  obtain ⟨o, ho, hc, hd⟩ := q
  obtain ⟨o2, ho2, hc2, _⟩ := p
  rw [z, ho] at ho2
  cases ho2
  rw [hc] at hc2
  simp at hc2
theorem turn_enumT {P : Program} {w : World} {K : PySem.W.Frag} {elts : List Expr} {kk : Nat} {tpos : Pos} (a e it : Addr) :
    Turn P w K (.Tuple elts kk tpos) (Itn K a) [e, it] e (fun i h => (∃ old, IsEnum h e it ((i : Nat) : Int) old) ∧ h.IsTupleIter it a i ∧ e ≠ it) where
  mem := by simp
  obj := fun i h st b hb => by
    obtain ⟨⟨old, he⟩, ⟨o, ho, hc, hd⟩, _⟩ := st
    have e' : b = e ∨ b = it := by simpa using hb
    rcases e' with z | z
    · rw [z]; exact ⟨_, he, fun v q => nomatch q⟩
    · rw [z]; exact ⟨o, ho, fun v q => by rw [hd] at q; cases q⟩
  keep := fun i h h' st k => let ⟨⟨old, he⟩, hi, hne⟩ := st; ⟨⟨old, k e (by simp) _ he⟩, hi.at fun o q => k it (by simp) o q, hne⟩
  item := by
    intro X hP hw hK hc i pins s σ H E I hf st hg
    subst hP hw hK
    obtain ⟨⟨old, he⟩, hit, hne⟩ := st
    obtain ⟨xs, x, hq, hx⟩ := hg
    obtain ⟨its, rv, p, hz⟩ := I.tuple hq
    have p : s.heap.IsTuple a its.toArray := p
    have hai := apart_tup p hit
    obtain ⟨u, hu, ru⟩ := rv.get hx
    have hel : e < s.heap.objs.size := Heap.lt_size he
    have hil : it < s.heap.objs.size := by obtain ⟨_, q, _⟩ := hit; exact Heap.lt_size q
    have hea : e ≠ a := fun z => by
      obtain ⟨o2, ho2, hc2, _⟩ := p
      have he' : s.heap.get? e = some _ := he
      rw [z, ho2] at he'
      cases he'
      simp at hc2
    refine wpAny_pyNext_enum_itemD (Draws.tuple (A := X.A.in1) (I.ok.hd hc) it a hai its.toArray) he ⟨hit, p⟩ (by
      obtain ⟨hl, _⟩ := List.getElem?_eq_some_iff.mp hu
      simpa using hl) hne (by simp [hne, hea]) fun x' h' tk hx' ho st' hT hsz hk => ?_
    have hxe : x' = u := by
      have e1 : its[i]? = some x' := by simpa using hx'
      rw [hu] at e1
      exact (Option.some.inj e1).symm
    subst hxe
    refine ⟨_, rfl, wpAny_letOwnedTupleGo_enum (s := { s with heap := h', toks := tk + 1 }) ho fun h'' he' sb => ?_⟩
    have hT2 : h''.get? s.heap.objs.size = some { cls := .type "tuple", data := .seq #[.int i tk, x'] } := (sb.2 _ (Nat.ne_of_gt hel)).trans hT
    have new : ObjOk X.prog X.w (upd H s.heap.objs.size (.tup [.int (i : Nat), x])) h'' s.heap.objs.size (.tup [.int (i : Nat), x]) :=
      ⟨by show 2 ≤ sizeLine; decide, [.int i tk, x'], .cons ⟨_, rfl⟩ (.cons ru .nil), ⟨_, hT2, rfl, _, rfl⟩⟩
    have I1 : Inv X pins σ (upd H s.heap.objs.size (.tup [.int (i : Nat), x])) { s with heap := h'', toks := tk + 1 } :=
      I.turnedNew (ch := [e, it]) (fun b ob hb q => (sb.2 b (fun z => hb (by simp [z]))).trans (hk b ob (fun z => hb (by simp [z])) (fun z => hb (by simp [z])) q)) hf (Nat.le_refl _) new
    refine ⟨.ref s.heap.objs.size, _, I1, rfl, ⟨_, x, rfl, I.hok.fresh (Nat.le_refl _), rfl, fun ys hy => by rw [I.tuple_inj hy hq]; exact hx⟩, ⟨⟨x', ?_⟩, st'.1.at fun o q => (sb.2 it (Ne.symm hne)).trans q, hne⟩, fun b hb => ?_⟩
    · have e1 : ((i + 1 : Nat) : Int) = (i : Int) + 1 := by omega
      rw [e1]; exact he'
    · have hb' : b < s.heap.objs.size := by
        have e' : b = e ∨ b = it := by simpa using hb
        rcases e' with z | z
        · rw [z]; exact hel
        · rw [z]; exact hil
      rw [upd_ne (Nat.ne_of_lt hb')]
      exact (hf b hb).1
  done := by
    intro X hP hw hK hc i pins s σ H E I hf st hg
    subst hP hw hK
    obtain ⟨⟨old, he⟩, hit, hne⟩ := st
    obtain ⟨xs, hq, hx⟩ := hg
    obtain ⟨its, rv, p, hz⟩ := I.tuple hq
    have p : s.heap.IsTuple a its.toArray := p
    obtain ⟨f0, f1, f2, f3, f4, f5⟩ := hf it (by simp)
    have hl := rv.length
    have hT : s.TypeIs (.ref e) "enumerate" := ⟨_, he, rfl⟩
    unfold pyNext
    refine wpAny_bind (wpAny_attempt (wpAny_callSpecial?_slot (name := Str.ofString "__next__") hT F.slot_enumerate_next
      (wpAny_call_entry F.slot_enumerate_next hT F.entry_enumerate_next ?_ (F.args_enumerate_next_1 _))))
    show wpAny _ _ (field (.ref e) 2 >>= _) _ _ _
    refine wpAny_bind (wpAny_field he rfl (x := .ref it) rfl ?_)
    refine wpAny_bind (wpAny_nextOf_tuple_end (I.ok.hd hc) hit p (by simp; omega) fun h' x he' hx' => ?_)
    obtain ⟨o, ho, hc⟩ := hx'
    refine wpAny_bind (wpAny_isInstance (T := "StopIteration") (b := true) ⟨o, ho, hc⟩ isSubtype_stop ?_)
    exact wpAny_pure ⟨rfl, I.turned (t' := s.toks) (fun b o hb q => he' b o hb q) f0 f1 f3 f4 f5⟩
  self := fun A i s Q E st h => let ⟨⟨_, he⟩, _⟩ := st; wpAny_pyIter_enum he h
def iEnumT (K : PySem.W.Frag) (ta : TA) : TI := fun σ H R => ta σ H fun vs H1 => ∃ a xs, vs = [.ref a] ∧ SqT K H1 a xs ∧ R (Itn K a) H1
theorem pi_enumT {X : Cx} {e : Expr} {ta : TA} {p pos tpos : Pos} {elts : List Expr} {kk : Nat} (hg : Gl X "enumerate") (hm : X.mg "enumerate" = none) (ha : PA X [e] ta) (hs : starEach [e] X.env = [(false, eval e X.env)] := by rfl) :
    PI X (.Tuple elts kk tpos) (.Call (.Name "enumerate" p) [e] [] pos) (iEnumT X.K ta) := by
  refine ⟨fun pins s σ H R I h => ?_⟩
  refine Call_ (ld_blt I hg hm boot_enumerate (PyProof.Rows.callWith_type1 (thn (ha.run pos pins s σ H _ I h) fun us s1 ⟨vs, H1, I1, r1, q1⟩ => ?_) hs rfl))
  obtain ⟨a, xs, ex, hq, q⟩ := q1
  subst ex
  cases r1 with
  | cons r rr =>
    cases rr
    cases r
    obtain ⟨its, rv, p', hz⟩ := I1.tuple hq
    have p' : s1.heap.IsTuple a its.toArray := p'
    refine enum_begins1 (begins_tuple a its.toArray) p' fun h' he hit hsz hk => wpAny_pyIter_enum he ?_
    have I2 : Inv X pins σ H1 { s1 with heap := h' } := I1.kept (t' := s1.toks) hk
    refine ⟨s1.heap.objs.size + 1, [s1.heap.objs.size + 1, s1.heap.objs.size], _, _, H1, rfl, I2, turn_enumT a (s1.heap.objs.size + 1) s1.heap.objs.size, ⟨⟨.none, he⟩, ⟨_, hit, rfl, rfl⟩, Nat.succ_ne_self _⟩, fun b hb => ?_, q⟩
    have e' : b = s1.heap.objs.size + 1 ∨ b = s1.heap.objs.size := by simpa using hb
    have hle : s1.heap.objs.size ≤ b := by
      rcases e' with z | z
      · rw [z]; exact Nat.le_add_right _ _
      · rw [z]; exact Nat.le_refl _
    exact I1.fpOk hle (I1.hok.fresh hle)
theorem walk_enumT {K : PySem.W.Frag} {a : Addr} {xs : List V} : Walk (Itn K a) xs.length (fun H => SqT K H a xs) (YPair (fun i => some (.int (i : Nat))) (fun i => xs[i]?)) := by
  refine ⟨fun i _ hi q => ⟨xs, xs[i], q, by simp [hi]⟩, fun _ q => ⟨xs, q, Nat.le_refl _⟩, fun i H v H' _ q y => ?_⟩
  obtain ⟨T, x, h1, h2, h3, h4⟩ := y
  exact ⟨T, .int (i : Nat), x, h1, h2, h3, rfl, h4 xs q⟩
end KX

namespace KX
open PySem PySem.Spec PyProof.Rows L2
/-! readings, one step at a time -/
/-- a new object: any address that was free, the heap behind it -/
def NewO (H : Hp) (o : HO) (Q : VK) : Prop := ∀ p H', H p = none → Same H H' → H' p = some o → Q (.ref p) H'
theorem new_of {H : Hp} {o : HO} {Q : VK} (h : NewO H o Q) : ∀ p, H p = none → Q (.ref p) (upd H p o) := fun p hp => h p _ hp (Same.fresh hp) upd_same
section
variable {σ : L2.St} {H : Hp} {D : Ends} {Q : VK} {QT : Bool → Hp → Prop} {QA : List V → Hp → Prop} {QS : L2.St → Hp → Prop}
theorem rd_seq {t u : TS} (h : t { D with nx := u D } σ H) : tSeq t u D σ H := h
theorem rd_nx {a b c d} (h : a σ H) : ({ nx := a, rt := b, bk := c, ct := d } : Ends).nx σ H := h
theorem rd_rt {a b c d} {v : V} (h : b v H) : ({ nx := a, rt := b, bk := c, ct := d } : Ends).rt v H := h
theorem rd_ct {a b c d} (h : d σ H) : ({ nx := a, rt := b, bk := c, ct := d } : Ends).ct σ H := h
theorem rd_bk {a b c d} (h : c σ H) : ({ nx := a, rt := b, bk := c, ct := d } : Ends).bk σ H := h
theorem rd_next (h : D.nx σ H) : tNext D σ H := h
theorem rd_cont (h : D.ct σ H) : tCont D σ H := h
theorem rd_brk (h : D.bk σ H) : tBreak D σ H := h
theorem rd_drop {te : TE} (h : te σ H fun _ H1 => D.nx σ H1) : tDrop te D σ H := h
theorem rd_ret {te : TE} (h : te σ H D.rt) : tRet te D σ H := h
theorem rd_retN (h : D.rt .non H) : tRetN D σ H := h
theorem rd_ifs {c : TT} {t u : TS} (h : c σ H fun b H1 => if b = true then t D σ H1 else u D σ H1) : tIfS c t u D σ H := h
theorem rd_asg {te : TE} {g : TG} (h : te σ H fun x H1 => g x σ H1 D.nx) : tAsg te g D σ H := h
theorem rd_par {i j : Nat} {ta : TA} (h : ta σ H fun vs H1 => ∃ v w, vs = [v, w] ∧ D.nx ((σ.set i (some v)).set j (some w)) H1) : tPar i j ta D σ H := h
theorem rd_par2 {f : V → V → Prop} {v w : V} (h : f v w) : ∃ x y, [v, w] = [x, y] ∧ f x y := ⟨v, w, rfl, h⟩
theorem rd_par3 {i j l : Nat} {ta : TA} (h : ta σ H fun vs H1 => ∃ u v w, vs = [u, v, w] ∧ D.nx (((σ.set i (some u)).set j (some v)).set l (some w)) H1) : tPar3 i j l ta D σ H := h
theorem rd_par33 {f : V → V → V → Prop} {u v w : V} (h : f u v w) : ∃ z x y, [u, v, w] = [z, x, y] ∧ f z x y := ⟨u, v, w, rfl, h⟩
theorem rd_name {i : Nat} {v : V} (h : QS (σ.set i (some v)) H) : gName i v σ H QS := h
theorem rd_sub {to ti : TE} {t : TSet} {v : V} (h : to σ H fun o H1 => ti σ H1 fun i H2 => t o i v H2 fun H3 => QS σ H3) : gSub to ti t v σ H QS := h
theorem rd_gcons {t : TG} {u : TGs} {v : V} {vs : List V} (h : t v σ H fun σ' H' => u vs σ' H' QS) : gCons t u (v :: vs) σ H QS := ⟨v, vs, rfl, h⟩
theorem rd_gnil (h : QS σ H) : gNil [] σ H QS := ⟨rfl, h⟩
theorem rd_gtup {K : PySem.W.Frag} {n : Nat} {t : TGs} {a : Addr} {xs : List V} (ha : Tup H a xs) (hn : xs.length = n) (h : t xs σ H QS) : gTup K n t (.ref a) σ H QS := ⟨a, xs, rfl, ha.sq, hn, h⟩
theorem rd_glst {K : PySem.W.Frag} {n : Nat} {t : TGs} {a : Addr} {xs : List V} (ha : H a = some (.lst xs)) (hn : xs.length = n) (h : t xs σ H QS) : gLst K n t (.ref a) σ H QS := ⟨a, xs, rfl, SqL.of ha, hn, h⟩
theorem rd_var {i : Nat} {v : V} (e : σ[i]? = some (some v)) (h : Q v H) : tVar i σ H Q := ⟨v, e, h⟩
theorem rd_c {v : V} (h : Q v H) : tC v σ H Q := h
theorem rd_op {r : R2} {ta tb : TE} (h : ta σ H fun x H1 => tb σ H1 fun y H2 => r x y H2 Q) : tOp r ta tb σ H Q := h
theorem rd_un {r : V → Hp → VK → Prop} {ta : TE} (h : ta σ H fun x H1 => r x H1 Q) : tUn r ta σ H Q := h
theorem rd_tB {t : TE} (h : t σ H fun x H1 => ∃ c, x = .bl c ∧ QT c H1) : tB t σ H QT := h
theorem rd_test {t : TE} (h : t σ H fun x H1 => ∃ c, x = .bl c ∧ QT c H1) : tTest t σ H QT := h
theorem rd_bl {f : Bool → Prop} {b : Bool} (h : f b) : ∃ c, V.bl b = .bl c ∧ f c := ⟨b, rfl, h⟩
theorem rd_and {t u : TT} (h : t σ H fun c H1 => if c = true then u σ H1 QT else QT false H1) : tAnd t u σ H QT := h
theorem rd_or {t u : TT} (h : t σ H fun c H1 => if c = true then QT true H1 else u σ H1 QT) : tOr t u σ H QT := h
theorem rd_not {t : TT} (h : t σ H fun c H1 => QT (!c) H1) : tNot t σ H QT := h
theorem rd_yes (h : QT true H) : tYes σ H QT := h
theorem rd_andV {ta tb : TE} (h : ta σ H fun x H1 => ∃ c, x = .bl c ∧ if c = true then tb σ H1 Q else Q (.bl false) H1) : tAndV ta tb σ H Q := h
theorem rd_orV {ta tb : TE} (h : ta σ H fun x H1 => ∃ c, x = .bl c ∧ if c = true then Q (.bl true) H1 else tb σ H1 Q) : tOrV ta tb σ H Q := h
theorem rd_notV {ta : TE} (h : ta σ H fun x H1 => ∃ c, x = .bl c ∧ Q (.bl (!c)) H1) : tNotV ta σ H Q := h
theorem rd_if {t : TT} {ta tb : TE} (h : t σ H fun c H1 => if c = true then ta σ H1 Q else tb σ H1 Q) : tIf t ta tb σ H Q := h
theorem rd_isN {ta : TE} (h : ta σ H fun x H1 => Q (.bl (decide (x = .non))) H1) : tIsN ta σ H Q := h
theorem rd_iT {A B : Prop} (h : A) : if true = true then A else B := by rw [if_pos rfl]; exact h
theorem rd_iF {A B : Prop} (h : B) : if false = true then A else B := by rw [if_neg (by decide)]; exact h
theorem rd_nil (h : QA [] H) : tNil σ H QA := h
theorem rd_cons {ta : TE} {tr : TA} (h : ta σ H fun x H1 => tr σ H1 fun xs H2 => QA (x :: xs) H2) : tCons ta tr σ H QA := h
/-- behind a display's items -/
def TupTail (Q : VK) (xs : List V) (H1 : Hp) : Prop := xs.length ≤ sizeLine ∧ ∀ p, H1 p = none → Q (.ref p) (upd H1 p (.tup xs))
def LstTail (Q : VK) (xs : List V) (H1 : Hp) : Prop := xs.length ≤ sizeLine ∧ ∀ p, H1 p = none → Q (.ref p) (upd H1 p (.lst xs))
theorem rd_tup {t : TA} (h : t σ H (TupTail Q)) : tTup t σ H Q := h
theorem rd_lst {t : TA} (h : t σ H (LstTail Q)) : tLst t σ H Q := h
theorem rd_tupT {xs : List V} (hl : xs.length ≤ 1000 := by decide) (h : NewO H (.tup xs) Q) : TupTail Q xs H := ⟨Nat.le_trans hl (by decide), new_of h⟩
theorem rd_lstT {xs : List V} (hl : xs.length ≤ 1000 := by decide) (h : NewO H (.lst xs) Q) : LstTail Q xs H := ⟨Nat.le_trans hl (by decide), new_of h⟩
theorem rd_call {sp : Sp} {dvs : List V} {E : XK} {t : TA} (h : t σ H fun vs H1 => sp (vs ++ dvs) H1 Q E) : tCall sp dvs E t σ H Q := h
theorem rd_cb {r : List V → Hp → VK → Prop} {t : TA} (h : t σ H fun vs H1 => r vs H1 Q) : tCB r t σ H Q := h
theorem rd_bm {K : PySem.W.Frag} {T : String} {r : V → List V → Hp → VK → Prop} {to : TE} {t : TA} (h : to σ H fun x H1 => tyV K T x H1 ∧ t σ H1 fun xs H2 => r x xs H2 Q) : tBM K T r to t σ H Q := h
theorem rd_bm0 {K : PySem.W.Frag} {T : String} {r : V → List V → Hp → VK → Prop} {to : TE} (h : to σ H fun x H1 => tyV K T x H1 ∧ r x [] H1 Q) : tBM0 K T r to σ H Q := h
theorem rd_sl {r : V → Option Int → Option Int → Hp → VK → Prop} {te : TE} {tl th : TO} (h : te σ H fun x H1 => tl σ H1 fun l H2 => th σ H2 fun u H3 => r x l u H3 Q) : tSl r te tl th σ H Q := h
theorem rd_noP {Q : Option Int → Hp → Prop} (h : Q none H) : tNoPart σ H Q := h
theorem rd_part {t : TE} {Q : Option Int → Hp → Prop} (h : t σ H fun x H1 => ∃ i, x = .int i ∧ Q (some i) H1) : tPart t σ H Q := h
theorem rd_int {f : Int → Prop} {i : Int} (h : f i) : ∃ j, V.int i = .int j ∧ f j := ⟨i, rfl, h⟩
theorem rd_int1 {f : Int → Prop} {i : Int} (h : f i) : ∃ j, [V.int i] = [.int j] ∧ f j := ⟨i, rfl, h⟩
theorem rd_fld {K : PySem.W.Frag} {ta : TE} {f : Str} (h : ta σ H fun x H1 => ∃ a C dx fs v, x = .ref a ∧ H1 a = some (.ins C dx fs) ∧ Cls K C ∧ NoAttr K C f ∧ fs.lookup f = some v ∧ Q v H1) : tFld K ta f σ H Q := h
theorem rd_ilist {K : PySem.W.Frag} {tl : TE} {R : It → Hp → Prop} (h : tl σ H fun x H1 => ∃ a, x = .ref a ∧ (∃ xs, SqL K H1 a xs) ∧ R (Itl K a) H1) : iList K tl σ H R := h
theorem rd_itup {K : PySem.W.Frag} {tl : TE} {R : It → Hp → Prop} (h : tl σ H fun x H1 => ∃ a, x = .ref a ∧ (∃ xs, SqT K H1 a xs) ∧ R (Itt K a) H1) : iTup K tl σ H R := h
theorem rd_rng1 {ta : TA} {R : It → Hp → Prop} (h : ta σ H fun vs H1 => ∃ j : Int, vs = [.int j] ∧ -(2 ^ 62) ≤ j ∧ j < 2 ^ 62 ∧ R (Itr 0 j.toNat) H1) : iRng1 ta σ H R := h
theorem rd_enum {K : PySem.W.Frag} {ta : TA} {R : It → Hp → Prop} (h : ta σ H fun vs H1 => ∃ a xs, vs = [.ref a] ∧ SqL K H1 a xs ∧ R (Ite K a) H1) : iEnum K ta σ H R := h
theorem rd_enumT {K : PySem.W.Frag} {ta : TA} {R : It → Hp → Prop} (h : ta σ H fun vs H1 => ∃ a xs, vs = [.ref a] ∧ SqT K H1 a xs ∧ R (Itn K a) H1) : iEnumT K ta σ H R := h
theorem rd_rng1v {j : Int} {n : Nat} {R : It → Prop} (hj : j = n) (hn : n < 1000000) (h : R (Itr 0 n)) : ∃ k : Int, [V.int j] = [.int k] ∧ -(2 ^ 62) ≤ k ∧ k < 2 ^ 62 ∧ R (Itr 0 k.toNat) := by
  subst hj
  exact ⟨_, rfl, by omega, by omega, h⟩
/-! operators by values -/
theorem rd_rI0 {g : Int → Int → V} {i j : Int} (h : Q (g i j) H) : rI0 g (.int i) (.int j) H Q := ⟨i, j, rfl, rfl, h⟩
theorem rd_rI {C : Int → Int → Prop} {g : Int → Int → V} {i j : Int} (hc : C i j) (h : Q (g i j) H) : rI C g (.int i) (.int j) H Q := ⟨i, j, rfl, rfl, hc, h⟩
theorem rd_rU {g : Int → V} {i : Int} (h : Q (g i) H) : rU g (.int i) H Q := ⟨i, rfl, h⟩
theorem rd_eqI {i j : Int} (h : Q (.bl (decide (i = j))) H) : rEq (.int i) (.int j) H Q := by
  refine ⟨rfl, ?_⟩
  have e : decide (V.int i = V.int j) = decide (i = j) := by by_cases z : i = j <;> simp [z]
  rw [e]; exact h
theorem rd_neI {i j : Int} (h : Q (.bl (!decide (i = j))) H) : rNe (.int i) (.int j) H Q := by
  refine ⟨rfl, ?_⟩
  have e : decide (V.int i = V.int j) = decide (i = j) := by by_cases z : i = j <;> simp [z]
  rw [e]; exact h
theorem rd_ixL {K : PySem.W.Frag} {p : Addr} {xs : List V} {i : Int} {v : V} (ha : H p = some (.lst xs)) (e : atI xs i = some v) (h : Q v H) : rIxL K (.ref p) (.int i) H Q := ⟨p, xs, i, v, rfl, rfl, SqL.of ha, e, h⟩
theorem rd_ixT {K : PySem.W.Frag} {p : Addr} {xs : List V} {i : Int} {v : V} (ha : Tup H p xs) (e : atI xs i = some v) (h : Q v H) : rIxT K (.ref p) (.int i) H Q := ⟨p, xs, i, v, rfl, rfl, ha.sq, e, h⟩
theorem rd_cat {a b : Addr} {xs ys : List V} (ha : H a = some (.lst xs)) (hb : H b = some (.lst ys)) (hl : xs.length + ys.length ≤ 1000000) (h : NewO H (.lst (xs ++ ys)) Q) : rCat (.ref a) (.ref b) H Q :=
  ⟨a, b, xs, ys, rfl, rfl, ha, hb, Nat.le_trans hl (by decide), new_of h⟩
theorem rd_slL {K : PySem.W.Frag} {a : Addr} {xs : List V} {lo hi : Option Int} (ha : H a = some (.lst xs)) (h : NewO H (.lst (cutV xs lo hi)) Q) : rSlL K (.ref a) lo hi H Q := ⟨a, xs, rfl, SqL.of ha, new_of h⟩
theorem rd_app {l : Addr} {xs : List V} {y : V} (ha : H l = some (.lst xs)) (hl : xs.length < 1000000) (h : Q .non (upd H l (.lst (xs ++ [y])))) : rAppend (.ref l) [y] H Q :=
  ⟨l, xs, y, rfl, rfl, ha, Nat.lt_of_lt_of_le hl (by decide), h⟩
theorem rd_lenL {X : Cx} {p : Addr} {ys : List V} (ha : H p = some (.lst ys)) (h : Q (.int ys.length) H) : ∃ p' ys', [V.ref p] = [.ref p'] ∧ (SqL X.K H p' ys' ∨ SqT X.K H p' ys') ∧ Q (.int ys'.length) H := ⟨p, ys, rfl, .inl (SqL.of ha), h⟩
theorem rd_then {ta : TE} {k : V → Hp → VK → Prop} (h : ta σ H fun x H1 => k x H1 Q) : tThen ta k σ H Q := h
theorem rd_raise {C : Addr} {W : WX} {ta : TA} (h : ta σ H fun vs H1 => ∃ v, vs = [v] ∧ ∀ d, H1 d = none → W (.ref C) (some d) σ (upd H1 d (.xd [(("at" : Str), v)]))) : tRaiseErr C W ta D σ H := h
theorem rd_one {f : V → Prop} {v : V} (h : f v) : ∃ w, [v] = [w] ∧ f w := ⟨v, rfl, h⟩
theorem rd_sfld {K : PySem.W.Frag} {ta tv : TE} {f : Str} (h : tv σ H fun y H1 => ta σ H1 fun x H2 => ∃ a C dx fs, x = .ref a ∧ H2 a = some (.ins C dx fs) ∧ Cls K C ∧ NoAttr K C f ∧ fs.length < 1000 ∧ D.nx σ (upd H2 a (.ins C dx (putF f y fs)))) : sFld K ta tv f D σ H := h
end
end KX

namespace KX
open PySem PySem.Spec PyProof.Rows L2 L2H LamX
/-! the law's own call under CG, with some tables of code objects -/
section
variable {P : Program} {w : World} {K : PySem.W.Frag} {mg mb : Str → Option Value} {CX : CXT} {k : Nat} {fa a : Addr} {ts : List (Addr × Addr)}
  {fd : FuncData} {x : Str} {sp : Sp} {s₁ : Shared} {vs : List Value}
/-- only the script and the tables are tracked -/
structure OnlyS (H : Hp) (a : Addr) (ts : List (Addr × Addr)) : Prop where
  tab : ∀ p ∈ ts, H p.2 = some (.tbl #[])
  who : ∀ b, H b ≠ none → b = a ∨ ∃ p ∈ ts, b = p.2
  frz : ∀ u, H a = some u → ∃ o xs, u = .frz o (.lst xs)
theorem OnlyS.off {H : Hp} {b : Addr} (O : OnlyS H a ts) (h1 : b ≠ a) (h2 : ∀ p ∈ ts, b ≠ p.2) : H b = none :=
  Classical.byContradiction fun z => (O.who b z).elim h1 fun ⟨p, hp, e⟩ => h2 p hp e
theorem lawS_core {H : Hp}
    (KI : K.In s₁.heap) (hns : s₁.heap.Ns mainGlobals mg) (hb : s₁.heap.Ns builtinsNs mb)
    (hbb : ∀ x : Str, x ≠ "__name__" → mb x = bootBuiltins x) (hlim : s₁.heap.NoLimit) (hg : s₁.gens = #[])
    (ht : ∀ p ∈ ts, s₁.heap.get? p.2 = some { cls := .none, data := .fields #[] }) (nt : ∀ p ∈ ts, K.lookup p.2 = none) (C : ∀ p ∈ ts, PySem.W.CodeHd s₁.heap p.1 p.2)
    (hbm : ∃ (bm : Addr) (ob : Obj), mg "__builtins__" = some (.ref bm) ∧ bm ≠ builtinsNs ∧ s₁.heap.get? bm = some ob ∧ ob.cls = .type "module" ∧ ob.dict = some builtinsNs ∧ ob.data = .plain)
    (ha : s₁.heap.get? a = some { cls := .type "list", data := .seq vs.toArray }) (hr : Room k callerA)
    (F : ∀ base : Heap, K.In base → base.Ns mainGlobals mg → (∀ p ∈ ts, TabB base mg p.1 p.2) → FnR P w K mg base CX (CG k) fa fd [x] sp)
    (hbind : ∀ (s : Shared) (u : Value), BindsTo s fd ⟨[u], []⟩ [(x, u)])
    (hCX : ∀ H e s', CX [] H s₁ (fun _ _ _ => False) e s' → False)
    (O : OnlyS H a ts) (hS : sp [.ref a] H (fun v _ => v = .bl true) fun _ _ _ => False) (hok : HOk P w H s₁.heap)
    (hK : H a ≠ none → K.lookup a = none) :
    codeAny (model P w) callerA (.call (.ref fa) ⟨[.ref a], []⟩)
      (fun r s' => r = .ok (.ret (.bool true)) ∧ OldK s₁.heap s'.heap ∧ s'.os = s₁.os ∧ AllBare s'.gens) s₁ := by
  have sees : ∀ {b : Addr} {o : Obj}, s₁.heap.get? b = some o → (∀ vs n, o.data ≠ .seq vs n) → o.data ≠ .fields #[] →
      (hidT s₁.heap H).get? b = some o := fun {b o} e h1 h2 => hidT_get e (O.off (fun z => by
        subst z
        rw [ha] at e
        cases e
        exact h1 _ _ rfl) fun p hp z => by
        subst z
        rw [ht p hp] at e
        cases e
        exact h2 rfl)
  have nsH : ∀ {b : Addr} {m : Str → Option Value}, s₁.heap.Ns b m → (hidT s₁.heap H).Ns b m := fun {b m} n => by
    obtain ⟨o, es, ep, e, d, r⟩ := n
    exact ⟨o, es, ep, sees e (fun vs n z => by rw [d] at z; cases z) (fun z => by rw [d] at z; cases z), d, r⟩
  have KB : K.In (hidT s₁.heap H) := fun b o e => hidT_get (KI b o e) (Classical.byContradiction fun z => by
    rcases O.who b z with h | ⟨p, hp, h⟩
    · subst h
      rw [hK z] at e
      cases e
    · subst h
      rw [nt p hp] at e
      cases e)
  have MB : Mod K mg (hidT s₁.heap H) := by
    obtain ⟨mc, h1, h2⟩ := hlim
    exact ⟨KB, nsH hns, ⟨mb, nsH hb, hbb⟩, ⟨mc, nsH h1, h2⟩⟩
  have TB : ∀ p ∈ ts, TabB (hidT s₁.heap H) mg p.1 p.2 := fun p hp => by
    refine ⟨?_, ?_, fun z => ?_⟩
    · obtain ⟨o, us, file, tf, flags, tg, inF, text, tt, e1, r1, r2, r3, rest⟩ := C p hp
      refine ⟨o, us, file, tf, flags, tg, inF, text, tt, sees e1 (fun vs n z => ?_) (fun z => ?_), r1, r2, r3, rest⟩
      · rw [r2] at z
        cases z
      · rw [r2] at z
        cases z
        simp at r3
    · obtain ⟨bm, ob, b1, b2, b3, b4, b5, b6⟩ := hbm
      refine ⟨bm, ob, b1, b2, fun q => ?_, fun q => ?_, sees b3 (fun vs n z => by rw [b6] at z; cases z) (fun z => by rw [b6] at z; cases z), b4, b5, b6⟩
      · obtain ⟨o, es, ep, e, hd, _⟩ := hns
        rw [q, e] at b3
        cases b3
        rw [hd] at b6
        cases b6
      · rw [q, ht p hp] at b3
        cases b3
        cases b6
    · obtain ⟨o, es, ep, e, hd, _⟩ := hns
      rw [z, ht p hp] at e
      cases e
      cases hd
  have e0 : Env0 P w K mg (hidT s₁.heap H) callerA [] s₁ H :=
    ⟨rfl, MB, fun b o e => of_hidT e, Nat.le_of_eq (hidT_size _ _), trivial,
      fun b hb => absurd (show b ∈ ([] : List Addr) from hb) (by simp), hok, .of_eq hg⟩
  refine codeAny_mono ((F _ KB (nsH hns) TB).does callerA [] s₁ H ⟨[.ref a], []⟩ [.ref a] [.ref a] _ _ ⟨hr, rfl⟩ e0
    (hbind s₁ (.ref a)) (.cons rfl .nil) hS) fun r s' h => ?_
  match r, h with
  | .error e, h => exact (hCX H e s' h).elim
  | .ok (.ret u), h =>
    obtain ⟨v, H', os, bare, un, hok', r', q⟩ := h
    have q' : v = .bl true := q
    subst q'
    obtain rfl : u = Value.bool true := r'
    have hm : ∀ p ∈ ts, ∃ more : Array Value, s'.heap.get? p.2 = some { cls := .none, data := .fields more } := fun p hp => by
      obtain ⟨more, z⟩ := un.tbls p.2 #[] (O.tab p hp)
      exact ⟨_, hok' p.2 _ z⟩
    have other : ∀ b o, (∀ p ∈ ts, b ≠ p.2) → s₁.heap.get? b = some o → s'.heap.get? b = some o := fun b o nb e => by
      cases q : H b with
      | none => exact un.keep b o e q (by intro z; exact absurd (show b ∈ ([] : List Addr) from z) (by simp)) (by simp)
      | some u =>
        have eb : b = a := (O.who b (by rw [q]; exact fun z => nomatch z)).resolve_right fun ⟨p, hp, z⟩ => nb p hp z
        subst eb
        obtain ⟨ob, xs, rfl⟩ := O.frz _ q
        have e1 := (hok b _ q).1
        have e2 := (hok' b _ (un.frzs b ob _ q)).1
        rw [e] at e1
        cases e1
        exact e2
    refine ⟨rfl, ⟨fun b o e => ?_, fun b o e => ?_⟩, os, bare⟩
    · by_cases h : ∃ p ∈ ts, b = p.2
      · obtain ⟨p, hp, rfl⟩ := h
        obtain ⟨more, hm⟩ := hm p hp
        rw [ht p hp] at e
        cases e
        exact .inr (.inl ⟨((C p hp).tab (ht p hp)).isCodeTable, rfl, #[], more, rfl, by rw [Array.empty_append]; exact hm⟩)
      · exact .inl (other b o (fun p hp z => h ⟨p, hp, z⟩) e)
    · by_cases h : ∃ p ∈ ts, b = p.2
      · obtain ⟨p, hp, rfl⟩ := h
        obtain ⟨more, hm⟩ := hm p hp
        exact ⟨_, hm⟩
      · exact ⟨o, other b o (fun p hp z => h ⟨p, hp, z⟩) e⟩
theorem law_callS {ns : List Int}
    (KI : K.In s₁.heap) (hns : s₁.heap.Ns mainGlobals mg) (hb : s₁.heap.Ns builtinsNs mb)
    (hbb : ∀ x : Str, x ≠ "__name__" → mb x = bootBuiltins x) (hlim : s₁.heap.NoLimit) (hg : s₁.gens = #[])
    (ht : ∀ p ∈ ts, s₁.heap.get? p.2 = some { cls := .none, data := .fields #[] }) (nt : ∀ p ∈ ts, K.lookup p.2 = none) (C : ∀ p ∈ ts, PySem.W.CodeHd s₁.heap p.1 p.2)
    (hbm : ∃ (bm : Addr) (ob : Obj), mg "__builtins__" = some (.ref bm) ∧ bm ≠ builtinsNs ∧ s₁.heap.get? bm = some ob ∧ ob.cls = .type "module" ∧ ob.dict = some builtinsNs ∧ ob.data = .plain)
    (ha : s₁.heap.get? a = some { cls := .type "list", data := .seq vs.toArray }) (hi : IntsAre vs ns) (hl : ns.length ≤ sizeLine) (hr : Room k callerA)
    (F : ∀ base : Heap, K.In base → base.Ns mainGlobals mg → (∀ p ∈ ts, TabB base mg p.1 p.2) → FnR P w K mg base CX (CG k) fa fd [x] sp)
    (hbind : ∀ (s : Shared) (u : Value), BindsTo s fd ⟨[u], []⟩ [(x, u)])
    (hsp : ∀ H : Hp, (∀ p ∈ ts, H p.2 = some (.tbl #[])) → SqL K H a (ns.map V.int) → sp [.ref a] H (fun v _ => v = .bl true) fun _ _ _ => False)
    (hCX : ∀ H e s', CX [] H s₁ (fun _ _ _ => False) e s' → False) :
    codeAny (model P w) callerA (.call (.ref fa) ⟨[.ref a], []⟩)
      (fun r s' => r = .ok (.ret (.bool true)) ∧ OldK s₁.heap s'.heap ∧ s'.os = s₁.os ∧ AllBare s'.gens) s₁ := by
  have rv := vals_ints hi
  have nat : ∀ p ∈ ts, a ≠ p.2 := fun p hp z => by
    rw [z, ht p hp] at ha
    cases ha
  cases hk : K.lookup a with
  | some o =>
    have e := KI a o hk
    rw [ha] at e
    cases e
    let H : Hp := fun b => if b ∈ ts.map (·.2) then some (.tbl #[]) else none
    have atT : ∀ p ∈ ts, H p.2 = some (.tbl #[]) := fun p hp => if_pos (List.mem_map.mpr ⟨p, hp, rfl⟩)
    have off : ∀ {b}, b ∉ ts.map (·.2) → H b = none := fun h => if_neg h
    have on : ∀ {b}, b ∈ ts.map (·.2) → ∃ p ∈ ts, b = p.2 := fun h => by
      obtain ⟨p, hp, e⟩ := List.mem_map.mp h
      exact ⟨p, hp, e.symm⟩
    have noff : a ∉ ts.map (·.2) := fun h => by
      obtain ⟨p, hp, e⟩ := on h
      exact nat p hp e
    have S : SqL K H a (ns.map V.int) :=
      Or.inr ⟨_, vs.toArray, _, hk, rfl, rfl, rfl, by rw [List.size_toArray, hi.length]; exact hl, by simpa using rv⟩
    have O : OnlyS H a ts := ⟨atT, fun b z => Or.inr (on (Classical.byContradiction fun h => z (off h))), fun u z => by rw [off noff] at z; cases z⟩
    refine lawS_core KI hns hb hbb hlim hg ht nt C hbm ha hr F hbind hCX O (hsp _ atT S) (fun b u z => ?_) fun z => absurd (off noff) z
    by_cases h : b ∈ ts.map (·.2)
    · obtain ⟨p, hp, rfl⟩ := on h
      rw [atT p hp] at z
      cases z
      exact ht p hp
    · rw [off h] at z
      cases z
  | none =>
    let H : Hp := fun b => if b = a then some (.frz { cls := .type "list", data := .seq vs.toArray } (.lst (ns.map V.int))) else if b ∈ ts.map (·.2) then some (.tbl #[]) else none
    have on : ∀ {b}, b ∈ ts.map (·.2) → ∃ p ∈ ts, b = p.2 := fun h => by
      obtain ⟨p, hp, e⟩ := List.mem_map.mp h
      exact ⟨p, hp, e.symm⟩
    have atA : H a = some (.frz { cls := .type "list", data := .seq vs.toArray } (.lst (ns.map V.int))) := if_pos rfl
    have atT : ∀ p ∈ ts, H p.2 = some (.tbl #[]) := fun p hp => (if_neg (Ne.symm (nat p hp))).trans (if_pos (List.mem_map.mpr ⟨p, hp, rfl⟩))
    have off : ∀ {b}, b ≠ a → b ∉ ts.map (·.2) → H b = none := fun h h' => (if_neg h).trans (if_neg h')
    have S : SqL K H a (ns.map V.int) := Or.inl (Or.inr ⟨_, atA⟩)
    have O : OnlyS H a ts := ⟨atT, fun b z => by
      by_cases h : b = a
      · exact Or.inl h
      · exact Or.inr (on (Classical.byContradiction fun h' => z (off h h'))), fun u z => by rw [atA] at z; cases z; exact ⟨_, _, rfl⟩⟩
    refine lawS_core KI hns hb hbb hlim hg ht nt C hbm ha hr F hbind hCX O (hsp _ atT S) (fun b u z => ?_) fun _ => hk
    by_cases h : b = a
    · subst h
      rw [atA] at z
      cases z
      exact ⟨ha, by rw [List.length_map]; exact hl, vs, _, rv, ha⟩
    · by_cases h' : b ∈ ts.map (·.2)
      · obtain ⟨p, hp, rfl⟩ := on h'
        rw [atT p hp] at z
        cases z
        exact ht p hp
      · rw [off h h'] at z
        cases z
end
/-- what k_head leaves, by the law's promise under CG; ts: the tables of the code objects -/
theorem walk_ofS {l : PySem.W.OpenLaw} {n k : Nat} {q : Program} {loose : List Str} {XP : (Str → Option Value) → Heap → Prop}
    {YP : World → Heap → Prop} {d : DefRec} {K : Params → PySem.W.Frag} {CX : CXT} {x : Str} {ts : List (Addr × Addr)} {sp : PySem.W.Frag → Sp}
    (hn : l.most = some n) (hn2 : n ≤ sizeLine) (hdf : d.params.defaults = []) (hr : Room k callerA)
    (hY : ∀ (w : World) (h : Heap), YP w h → (K w.params).In h)
    (hT : ∀ (w : World) (h : Heap), YP w h → ∀ p ∈ ts, h.get? p.2 = some { cls := .none, data := .fields #[] })
    (hcd : ∀ w : World, ∀ p ∈ ts, PySem.W.codeHdIn (K w.params) p.1 p.2 = true) (nt : ∀ w : World, ∀ p ∈ ts, (K w.params).lookup p.2 = none)
    (F : ∀ (w : World) (mg : Str → Option Value) (fa : Addr) (h : Heap), (K w.params).In h → h.Ns mainGlobals mg →
      mg d.name = some (.ref fa) → ∃ fd : FuncData, (∀ (s : Shared) (u : Value), BindsTo s fd ⟨[u], []⟩ [(x, u)]) ∧
        ∀ base : Heap, (K w.params).In base → base.Ns mainGlobals mg → (∀ p ∈ ts, TabB base mg p.1 p.2) →
          FnR l.prog w (K w.params) mg base CX (CG k) fa fd [x] (sp (K w.params)))
    (hsp : ∀ (K : PySem.W.Frag) (H : Hp) (a : Addr) (ns : List Int), ns.length ≤ n → (∀ p ∈ ts, H p.2 = some (.tbl #[])) → SqL K H a (ns.map V.int) →
      sp K [.ref a] H (fun v _ => v = .bl true) fun _ _ _ => False)
    (hCX : ∀ (H : Hp) (s : Shared) (e : Value) (s' : Shared), CX [] H s (fun _ _ _ => False) e s' → False) :
    PySem.W.WalkO q loose XP YP l.row.toRowW d [] (fun f vs => PySem.call f vs) := by
  refine Att.attach_call hn hdf fun w s₀ s₁ mg mb fa o pm cd doc a vs ns G Y ho hd hcd' hmg hobj hints hlen hg => ?_
  have KI := hY w _ Y
  obtain ⟨fd, hb, hF⟩ := F w mg fa _ KI G.T.g hmg
  exact law_callS KI G.T.g G.T.b G.T.builtins G.T.nolimit hg (hT w _ Y) (nt w) (fun p hp => PySem.W.codeHd_of_K KI (hcd w p hp)) G.T.bmain hobj hints (Nat.le_trans hlen hn2) hr hF hb
    (fun H hH hS => hsp (K w.params) H a ns hlen hH hS) fun H e s' => hCX H s₁ e s'
end KX

namespace KX
open PySem PySem.Spec PyProof.Rows L2
/-! the rules that name the written part, with the written part handed in -/
section
variable {X : Cx} {K : PySem.W.Frag}
theorem cr_sortedK (hK : X.K = K := by rfl) : CallR X (.builtin "sorted") (rSorted K) := by subst hK; exact cr_sorted
theorem cr_sortTK (hK : X.K = K := by rfl) : CallR X (.builtin "sorted") (rSortT K) := by subst hK; exact cr_sortT
theorem cr_sortedPOK (hK : X.K = K := by rfl) : CallR X (.builtin "sorted") (rSortedPO K) := by subst hK; exact cr_sortedPO
theorem cr_maxK (hc : X.calm = true) (hK : X.K = K := by rfl) : CallR X (.builtin "max") (rMax K) := by subst hK; exact cr_max hc
theorem cr_minK (hc : X.calm = true) (hK : X.K = K := by rfl) : CallR X (.builtin "min") (rMin K) := by subst hK; exact cr_min hc
theorem cr_sumK (hc : X.calm = true) (hK : X.K = K := by rfl) : CallR X (.builtin "sum") (rSum K) := by subst hK; exact cr_sum hc
theorem cr_allK (hc : X.calm = true) (hK : X.K = K := by rfl) : CallR X (.builtin "all") (rAll K) := by subst hK; exact cr_all hc
theorem cr_anyK (hc : X.calm = true) (hK : X.K = K := by rfl) : CallR X (.builtin "any") (rAny K) := by subst hK; exact cr_any hc
theorem cr_reprK (hg : X.A.guards = some []) (hu : X.A.units + 66 < cLine) (hK : X.K = K := by rfl) : CallR X (.builtin "repr") (rRepr K) := by subst hK; exact cr_repr hg hu
def rLenS (K : PySem.W.Frag) : List V → Hp → VK → Prop := fun xs H Q => ∃ p ys, xs = [.ref p] ∧ (SqL K H p ys ∨ SqT K H p ys) ∧ Q (.int ys.length) H
theorem cr_lenK (hK : X.K = K := by rfl) : CallR X (.builtin "len") (rLenS K) := by subst hK; exact call_len_seq
def rListS (K : PySem.W.Frag) : List V → Hp → VK → Prop := fun xs H Q => ∃ p ys, xs = [.ref p] ∧ (SqL K H p ys ∨ SqT K H p ys) ∧ ∀ l, H l = none → Q (.ref l) (upd H l (.lst ys))
theorem cr_listK (hK : X.K = K := by rfl) : CallR X (.type "list") (rListS K) := by subst hK; exact call_list_of
theorem cr_isiK (hK : X.K = K := by rfl) : CallR X (.builtin "isinstance") (rIsi K) := by subst hK; exact call_isi
theorem cr_isiTK (hK : X.K = K := by rfl) : CallR X (.builtin "isinstance") (rIsiT K) := by subst hK; exact call_isiT
theorem ix_listK (hK : X.K = K := by rfl) : IxR X (rIxL K) := by subst hK; exact ix_list
theorem ix_tupK (hK : X.K = K := by rfl) : IxR X (rIxT K) := by subst hK; exact ix_tup
theorem sl_listK (hK : X.K = K := by rfl) : SlR X (rSlL K) := by subst hK; exact sl_list
theorem op_inK (hK : X.K = K := by rfl) : OpR X (compareOp .In) (rIn K false) := by subst hK; exact op_in_seq
theorem op_notInK (hK : X.K = K := by rfl) : OpR X (compareOp .NotIn) (rIn K true) := by subst hK; exact op_notIn_seq
theorem op_eqDK (hu : X.A.units + 64 < cLine) (hK : X.K = K := by rfl) : OpR X (compareOp .Eq) (rEqD K) := by subst hK; exact op_eqD hu
theorem op_neDK (hu : X.A.units + 64 < cLine) (hK : X.K = K := by rfl) : OpR X (compareOp .NotEq) (rNeD K) := by subst hK; exact op_neD hu
theorem op_inDK (hu : X.A.units + 65 < cLine) (hK : X.K = K := by rfl) : OpR X (compareOp .In) (rInD K) := by subst hK; exact op_inD hu
theorem op_notInDK (hu : X.A.units + 65 < cLine) (hK : X.K = K := by rfl) : OpR X (compareOp .NotIn) (rNotInD K) := by subst hK; exact op_notInD hu
section
variable {tg l e a : Expr} {tl ta te to : TE} {pos p tpos cpos apos : Pos} {f : Str} {t : TA} {es : List Expr}
theorem pi_listK (hl : PE X l tl) (hK : X.K = K := by rfl) : PI X tg l (iList K tl) := by subst hK; exact pi_list hl
theorem pi_tupK (hl : PE X l tl) (hK : X.K = K := by rfl) : PI X tg l (iTup K tl) := by subst hK; exact pi_tup hl
theorem pi_enumK {elts : List Expr} {kk : Nat} (hg : Gl X "enumerate") (hm : X.mg "enumerate" = none) (ha : PA X [e] t) (hs : starEach [e] X.env = [(false, eval e X.env)] := by rfl) (hK : X.K = K := by rfl) :
    PI X (.Tuple elts kk tpos) (.Call (.Name "enumerate" p) [e] [] pos) (iEnum K t) := by subst hK; exact pi_enum hg hm ha hs
theorem pi_enumTK {elts : List Expr} {kk : Nat} (hg : Gl X "enumerate") (hm : X.mg "enumerate" = none) (ha : PA X [e] t) (hs : starEach [e] X.env = [(false, eval e X.env)] := by rfl) (hK : X.K = K := by rfl) :
    PI X (.Tuple elts kk tpos) (.Call (.Name "enumerate" p) [e] [] pos) (iEnumT K t) := by subst hK; exact pi_enumT hg hm ha hs
theorem pe_fldK (he : PE X e ta) (hb : attributeBase e f X.env (eval e X.env) = eval e X.env := by rfl) (hK : X.K = K := by rfl) : PE X (.Attribute e f pos) (tFld K ta f) := by subst hK; exact pe_fld he hb
theorem ps_fldK {o value : Expr} {pos' : Pos} {tv : TE} (ha : PE X o ta) (hv : PE X value tv) (hs : swapsWith value (some (.Attribute o f pos')) pos.line X.env = pure false := by rfl) (hK : X.K = K := by rfl) :
    PS X (.Assign [.Attribute o f pos'] value pos) (sFld K ta tv f) := by subst hK; exact ps_fld ha hv hs
theorem pe_tupleK (hg : Gl X "tuple") (hm : X.mg "tuple" = none) (ha : PE X a ta) (na : starEach [a] X.env = (false, eval a X.env) :: starEach [] X.env := by rfl) (hK : X.K = K := by rfl) :
    PE X (.Call (.Name "tuple" p) [a] [] pos) (tThen ta (kTup K)) := by subst hK; exact pe_tupleOf hg hm ha na
theorem pg_tupK {k n : Nat} {t : TGs} (hc : X.calm = true) (h : PGs X es t) (hn : (assignEach es X.env).length = n := by rfl) (hst : (assignEach es X.env).findIdx? (·.1) = none := by rfl) (hK : X.K = K := by rfl) :
    PG X (.Tuple es k pos) (gTup K n t) := by subst hK; exact pg_tup hc h hn hst
theorem pg_lstK {k n : Nat} {t : TGs} (hc : X.calm = true) (h : PGs X es t) (hn : (assignEach es X.env).length = n := by rfl) (hst : (assignEach es X.env).findIdx? (·.1) = none := by rfl) (hK : X.K = K := by rfl) :
    PG X (.Tuple es k pos) (gLst K n t) := by subst hK; exact pg_lst hc h hn hst
end
end
/-! their readings -/
section
variable {σ : L2.St} {H : Hp} {Q : VK} {K : PySem.W.Frag}
theorem rd_lenB {p : Addr} {ys : List V} (ha : SqL K H p ys ∨ SqT K H p ys) (h : Q (.int ys.length) H) : rLenS K [.ref p] H Q := ⟨p, ys, rfl, ha, h⟩
theorem rd_len {p : Addr} {ys : List V} (ha : H p = some (.lst ys)) (h : Q (.int ys.length) H) : rLenS K [.ref p] H Q := ⟨p, ys, rfl, .inl (SqL.of ha), h⟩
theorem rd_lenTup {p : Addr} {ys : List V} (ha : Tup H p ys) (h : Q (.int ys.length) H) : rLenS K [.ref p] H Q := ⟨p, ys, rfl, .inr ha.sq, h⟩
theorem rd_list {p : Addr} {ys : List V} (ha : SqL K H p ys ∨ SqT K H p ys) (h : NewO H (.lst ys) Q) : rListS K [.ref p] H Q := ⟨p, ys, rfl, ha, new_of h⟩
theorem rd_sorted {p : Addr} {ns : List Int} (ha : H p = some (.lst (ns.map V.int))) (hl : ns.length < 64) (h : ∀ ns' : List Int, ns'.Perm ns → ns'.Pairwise (· ≤ ·) → NewO H (.lst (ns'.map V.int)) Q) : rSorted K [.ref p] H Q :=
  ⟨p, ns, rfl, SqL.of ha, hl, fun ns' q hp hs hq => new_of (h ns' hp hs) q hq⟩
theorem rd_tupL {p : Addr} {xs : List V} (ha : H p = some (.lst xs)) (h : NewO H (.tup xs) Q) : kTup K (.ref p) H Q := .inl ⟨p, xs, rfl, SqL.of ha, new_of h⟩
theorem rd_tupS {p : Addr} {xs : List V} (ha : Tup H p xs) (h : Q (.ref p) H) : kTup K (.ref p) H Q := .inr ⟨p, xs, rfl, ha.sq, h⟩
theorem rd_max {p : Addr} {ns : List Int} (ha : H p = some (.lst (ns.map V.int))) (hn : 0 < ns.length) (h : ∀ m, m ∈ ns → (∀ y ∈ ns, y ≤ m) → Q (.int m) H) : rMax K [.ref p] H Q := ⟨p, ns, rfl, SqL.of ha, hn, h⟩
theorem rd_repr {x : V} {d : PyData} (hd : Dp K H x d) (h1 : d.showable = true) (h2 : d.hasDict = false) (h3 : d.depth ≤ 64) (h4 : d.shown.length ≤ sizeLine) (h : Q (.str d.shown) H) : rRepr K [x] H Q := ⟨x, d, rfl, hd, h1, h2, h3, h4, h⟩
theorem rd_eqS {a b : Str} (h : Q (.bl (decide (a = b))) H) : rEq (.str a) (.str b) H Q := by
  refine ⟨rfl, ?_⟩
  have e : decide (V.str a = V.str b) = decide (a = b) := by by_cases z : a = b <;> simp [z]
  rw [e]; exact h
theorem rd_neS {a b : Str} (h : Q (.bl (!decide (a = b))) H) : rNe (.str a) (.str b) H Q := by
  refine ⟨rfl, ?_⟩
  have e : decide (V.str a = V.str b) = decide (a = b) := by by_cases z : a = b <;> simp [z]
  rw [e]; exact h
theorem rd_ty {p : Addr} {xs : List V} {R : Prop} (ha : H p = some (.lst xs)) (h : R) : tyV K "list" (.ref p) H ∧ R := ⟨.inl ⟨rfl, _, SqL.of ha⟩, h⟩
end
section
variable {X : Cx} {K : PySem.W.Frag} {o e : Expr} {es : List Expr} {to : TE} {t : TA} {apos cpos : Pos} {name : Str} {id : String} {r : V → List V → Hp → VK → Prop}
theorem pe_bmK (slot : Slot "list" name id) (hty : typeOf (.builtin id) = pure (.type "method_descriptor")) (hm : MtR X id r) (ho : PE X o to) (ha : PA X (e :: es) t)
    (hbase : attributeBase o name X.env (eval o X.env) = eval o X.env := by rfl)
    (hfew : ((backTo cpos (starEach (e :: es) X.env)).all (fun x => !x.1) && (backToKw cpos (keywordEach [] X.env)).all (fun x => x.1.isSome)
      && decide ((e :: es).length + ([] : List Keyword).length + (if ([] : List Keyword).isEmpty then 0 else 1) < 30)) = true := by rfl)
    (hline : (apos.endLine == cpos.line) = true := by rfl) (hs : starEach (e :: es) X.env = (false, eval e X.env) :: starEach es X.env := by rfl) (hplain : (backTo cpos (starEach es X.env)).any (·.1) = false := by rfl) (hK : X.K = K := by rfl) :
    PE X (.Call (.Attribute o name apos) (e :: es) [] cpos) (tBM K "list" r to t) := by subst hK; exact pe_bm PySem.F.plainAttrs_list slot hty hm ho ha hbase hfew hline hs hplain
theorem pe_bm0K (slot : Slot "list" name id) (hty : typeOf (.builtin id) = pure (.type "method_descriptor")) (hm : MtR X id r) (ho : PE X o to)
    (hbase : attributeBase o name X.env (eval o X.env) = eval o X.env := by rfl) (hline : (apos.endLine == cpos.line) = true := by rfl) (hK : X.K = K := by rfl) : PE X (.Call (.Attribute o name apos) [] [] cpos) (tBM0 K "list" r to) := by
  subst hK; exact pe_bm0 PySem.F.plainAttrs_list slot hty hm ho hbase hline
end
/-- what isinstance asks of an own class -/
structure IsCls (K : PySem.W.Frag) (C : Addr) : Prop where
  cl : Cls K C
  ha : PySem.W.findIn K (.ref C) "__class__" = some (some (.builtin "object.__class__"))
  hn : PySem.W.specialIn K (.builtin "object.__class__") "__get__" = some (some (.builtin "getset_descriptor.__get__"))
  ht : PySem.W.takesIn K (.builtin "object.__class__") = some true
  hm : PySem.W.mroIn K C (.type "object") = some true
  kit : PySem.W.kitOne K (.ref C) (.ref C) = some true
theorem IsCls.ty {K : PySem.W.Frag} {C : Addr} (h : IsCls K C) {H : Hp} {a dx : Addr} {fs : List (Str × V)} (e : H a = some (.ins C dx fs)) : TyX K H (.ref a) (.ref C) :=
  .base (.ins e h.cl h.ha h.hn h.ht h.hm)
/-! data: ints and pairs of ints -/
theorem dA_ints (K : PySem.W.Frag) (H : Hp) : ∀ ns : List Int, DpAll K H (ns.map V.int) (ns.map PyData.int)
  | [] => .nil
  | n :: ns => .cons (.int n) (dA_ints K H ns)
theorem dA_lay : ∀ ns : List Int, PyData.canLayAll0 (ns.map PyData.int) = true
  | [] => rfl
  | n :: ns => by
    show (PyData.canLay0 (.int n) && PyData.canLayAll0 (ns.map PyData.int)) = true
    rw [dA_lay ns]; rfl
theorem dA_dep : ∀ ns : List Int, PyData.depthAll (ns.map PyData.int) ≤ 1
  | [] => by decide
  | n :: ns => by
    have h := dA_dep ns
    show max (PyData.depth (.int n)) (PyData.depthAll (ns.map PyData.int)) ≤ 1
    have h1 : PyData.depth (.int n) = 0 := rfl
    rw [h1]; omega
theorem dA_sh (ns : List Int) : SeqAt.shaped (.tuple (ns.map PyData.int)) = true := by
  have h := dA_dep ns
  have h1 : PyData.depth (.tuple (ns.map PyData.int)) = PyData.depthAll (ns.map PyData.int) + 1 := rfl
  unfold SeqAt.shaped
  have h2 : PyData.canLay0 (.tuple (ns.map PyData.int)) = PyData.canLayAll0 (ns.map PyData.int) := rfl
  rw [h2, dA_lay, h1, Bool.true_and]
  exact decide_eq_true (by omega)
theorem dA_eqv : ∀ ns ms : List Int, PyData.eqvAll (ns.map PyData.int) (ms.map PyData.int) = decide (ns = ms)
  | [], [] => rfl
  | [], m :: ms => by simp [PyData.eqvAll]
  | n :: ns, [] => by simp [PyData.eqvAll]
  | n :: ns, m :: ms => by
    show ((n == m) && PyData.eqvAll (ns.map PyData.int) (ms.map PyData.int)) = _
    rw [dA_eqv ns ms]
    by_cases h1 : n = m
    · by_cases h2 : ns = ms <;> simp [h1, h2]
    · simp [h1]
def dP (e : Int × Int) : PyData := .tuple [.int e.1, .int e.2]
theorem dP_lay : ∀ L : List (Int × Int), PyData.canLayAll0 (L.map dP) = true
  | [] => rfl
  | n :: ns => by
    show (PyData.canLay0 (dP n) && PyData.canLayAll0 (ns.map dP)) = true
    rw [dP_lay ns]; rfl
theorem dP_dep : ∀ L : List (Int × Int), PyData.depthAll (L.map dP) ≤ 2
  | [] => by decide
  | n :: ns => by
    have h := dP_dep ns
    show max (PyData.depth (dP n)) (PyData.depthAll (ns.map dP)) ≤ 2
    have h1 : PyData.depth (dP n) = 1 := rfl
    rw [h1]; omega
theorem dP_shT (L : List (Int × Int)) : SeqAt.shaped (.tuple (L.map dP)) = true := by
  have h := dP_dep L
  have h1 : PyData.depth (.tuple (L.map dP)) = PyData.depthAll (L.map dP) + 1 := rfl
  unfold SeqAt.shaped
  have h2 : PyData.canLay0 (.tuple (L.map dP)) = PyData.canLayAll0 (L.map dP) := rfl
  rw [h2, dP_lay, h1, Bool.true_and]
  exact decide_eq_true (by omega)
theorem dP_shL (L : List (Int × Int)) : SeqAt.shaped (.list (L.map dP)) = true := by
  have h := dP_dep L
  have h1 : PyData.depth (.list (L.map dP)) = PyData.depthAll (L.map dP) + 1 := rfl
  unfold SeqAt.shaped
  have h2 : PyData.canLay0 (.list (L.map dP)) = PyData.canLayAll0 (L.map dP) := rfl
  rw [h2, dP_lay, h1, Bool.true_and]
  exact decide_eq_true (by omega)
theorem dP_sh1 (e : Int × Int) : SeqAt.shaped (dP e) = true := rfl
theorem dP_eqv1 (e f : Int × Int) : PyData.eqv (dP e) (dP f) = decide (e = f) := by
  obtain ⟨a, b⟩ := e
  obtain ⟨c, d⟩ := f
  show ((a == c) && ((b == d) && true)) = _
  by_cases h1 : a = c
  · by_cases h2 : b = d <;> simp [h1, h2]
  · simp [h1]
theorem dP_eqv : ∀ L M : List (Int × Int), PyData.eqvAll (L.map dP) (M.map dP) = decide (L = M)
  | [], [] => rfl
  | [], m :: ms => by simp [PyData.eqvAll]
  | n :: ns, [] => by simp [PyData.eqvAll]
  | n :: ns, m :: ms => by
    show (PyData.eqv (dP n) (dP m) && PyData.eqvAll (ns.map dP) (ms.map dP)) = _
    rw [dP_eqv ns ms, dP_eqv1]
    by_cases h1 : n = m
    · by_cases h2 : ns = ms <;> simp [h1, h2]
    · simp [h1]
theorem dP_any (e : Int × Int) (L : List (Int × Int)) : ((L.map dP).any fun z => PyData.eqv z (dP e)) = decide (e ∈ L) := by
  induction L with
  | nil => rfl
  | cons x L ih =>
    rw [List.map_cons, List.any_cons, ih, dP_eqv1]
    by_cases h : x = e
    · simp [h]
    · have h' : ¬ e = x := fun z => h z.symm
      simp [h, h']
theorem Room.u65 {k : Nat} {A : Around} (r : Room k A) : A.units + 65 < cLine := by have := r.un; omega
theorem Room.u66 {k : Nat} {A : Around} (r : Room k A) : A.units + 66 < cLine := by have := r.un; omega
end KX

namespace KX
open PySem PySem.Spec PyProof.Rows L2
/-! comprehensions whose values are told ahead -/
theorem same_put {H H' : Hp} {D : Addr} {o : HO} (s : Same H H') (n : H D = none) : Same H (L2.upd H' D o) := fun c u h => by
  rw [upd_ne (fun z => by rw [z, n] at h; cases h)]
  exact s c u h
section
variable {K : PySem.W.Frag} {g : TG} {te : TE} {vs : List Nat} {σ : L2.St} {H1 : Hp} {D : Addr} {Qd : Hp → Prop}
/-- at the end of a turn: the value told, the heap extended -/
theorem lcv_put {zs : List V} (hz : zs.length < 1000000) {i : Nat} {z : V} {H' H4 : Hp} (hD : H1 D = none) (hz' : zs[i]? = some z) (S : Same H1 H') (hH : H' D = some (.lst (zs.take i))) (S4 : Same H' H4) :
    ∃ acc, H4 D = some (.lst acc) ∧ acc.length < sizeLine ∧ (Same H1 (upd H4 D (.lst (acc ++ [z]))) ∧ upd H4 D (.lst (acc ++ [z])) D = some (.lst (zs.take (i + 1)))) := by
  refine ⟨_, S4 _ _ hH, ?_, same_put (fun c u h => S4 _ _ (S _ _ h)) hD, ?_⟩
  · rw [List.length_take]
    exact Nat.lt_of_le_of_lt (Nat.min_le_right _ _) (Nat.lt_of_lt_of_le hz (by decide))
  · rw [upd_same, List.take_succ, hz']; rfl
theorem yes_eq {R : L2.St → VK} {A : L2.St → Prop} {N : Hp → Prop} : (fun (σ2 : L2.St) (H2 : Hp) => A σ2 ∧ tYes σ2 H2 fun b H3 => if b = true then te σ2 H3 (R σ2) else N H3) = fun σ2 H2 => A σ2 ∧ te σ2 H2 (R σ2) := by
  funext σ2 H2
  show (A σ2 ∧ if true = true then te σ2 H2 (R σ2) else N H2) = _
  rw [if_pos rfl]
/-- over any walk that leaves the heap as it is -/
theorem lcv_wk {J : It} {n : Nat} {G : Hp → Prop} {f : Nat → V} (zs : List V) (w : Walk J n G fun i H v H' => H' = H ∧ v = f i) (lz : zs.length = n) (hz : zs.length < 1000000) (hD : H1 D = none) (keep : ∀ H', Same H1 H' → G H')
    (hs : ∀ (i : Nat) (z : V) (H' : Hp), i < n → zs[i]? = some z → Same H1 H' → ∀ R : VK, (∀ H4, Same H' H4 → R z H4) → g (f i) (wipe σ vs) H' fun σ2 H2 => wipe σ2 vs = wipe σ vs ∧ te σ2 H2 R)
    (hd : ∀ H', Same H1 H' → H' D = some (.lst zs) → Qd H') :
    ∃ W : Nat → Nat → Hp → Prop, (∃ m, W 0 m (upd H1 D (.lst []))) ∧ ∀ i m H, W i m H →
      (J.stop i H ∧ Qd H) ∨ (J.go i H ∧ ∃ Nx : Hp → Prop, (∀ H', Nx H' → ∃ m', m' < m ∧ W (i + 1) m' H') ∧ ∀ x H', J.yld i H x H' → g x (wipe σ vs) H' fun σ2 H2 => wipe σ2 vs = wipe σ vs ∧ tYes σ2 H2 fun b H3 =>
        if b = true then te σ2 H3 fun y H4 => ∃ acc, H4 D = some (.lst acc) ∧ acc.length < sizeLine ∧ Nx (upd H4 D (.lst (acc ++ [y]))) else Nx H3) := by
  refine lc_it w (fun i H' => Same H1 H' ∧ H' D = some (.lst (zs.take i))) ⟨Same.fresh hD, upd_same⟩ (fun i H' _ p => keep H' p.1) (fun i x H' H'' hi p y => ?_) (fun H' p => ?_)
  · obtain ⟨S, hH⟩ := p
    obtain ⟨rfl, rfl⟩ := y
    have hz' : zs[i]? = some zs[i] := List.getElem?_eq_getElem (by omega)
    rw [yes_eq (R := fun _ y H4 => ∃ acc, H4 D = some (.lst acc) ∧ acc.length < sizeLine ∧ (Same H1 (upd H4 D (.lst (acc ++ [y]))) ∧ upd H4 D (.lst (acc ++ [y])) D = some (.lst (zs.take (i + 1)))))]
    exact hs i _ _ hi hz' S _ fun H4 S4 => lcv_put hz hD hz' S hH S4
  · obtain ⟨S, hH⟩ := p
    rw [← lz, List.take_length] at hH
    exact hd H' S hH
end
section
variable {K : PySem.W.Frag} {g : TG} {te : TE} {vs : List Nat} {σ : L2.St} {H1 : Hp} {D : Addr} {Qd : Hp → Prop}
theorem lcv_list {a : Addr} {xs : List V} (zs : List V) (ha : H1 a = some (.lst xs)) (lz : zs.length = xs.length) (hz : zs.length < 1000000) (hD : H1 D = none)
    (hs : ∀ (i : Nat) (x z : V) (H' : Hp), xs[i]? = some x → zs[i]? = some z → Same H1 H' → ∀ R : VK, (∀ H4, Same H' H4 → R z H4) → g x (wipe σ vs) H' fun σ2 H2 => wipe σ2 vs = wipe σ vs ∧ te σ2 H2 R)
    (hd : ∀ H', Same H1 H' → H' D = some (.lst zs) → Qd H') :
    ∃ W : Nat → Nat → Hp → Prop, (∃ m, W 0 m (upd H1 D (.lst []))) ∧ ∀ i m H, W i m H →
      ((Itl K a).stop i H ∧ Qd H) ∨ ((Itl K a).go i H ∧ ∃ Nx : Hp → Prop, (∀ H', Nx H' → ∃ m', m' < m ∧ W (i + 1) m' H') ∧ ∀ x H', (Itl K a).yld i H x H' → g x (wipe σ vs) H' fun σ2 H2 => wipe σ2 vs = wipe σ vs ∧ tYes σ2 H2 fun b H3 =>
        if b = true then te σ2 H3 fun y H4 => ∃ acc, H4 D = some (.lst acc) ∧ acc.length < sizeLine ∧ Nx (upd H4 D (.lst (acc ++ [y]))) else Nx H3) := by
  refine lcv_wk (n := xs.length) (G := fun H => SqL K H a xs) (f := fun i => xs.getD i .non) zs ((walk_list).mono (fun _ h => h) fun i H x H' hi _ y => ⟨y.1, ?_⟩) lz hz hD (fun H' S => SqL.of (S _ _ ha)) (fun i z H' hi hz' S => ?_) hd
  · rw [List.getD_eq_getElem?_getD, y.2]; rfl
  · have e : xs[i]? = some (xs.getD i .non) := by rw [List.getD_eq_getElem?_getD, List.getElem?_eq_getElem hi]; rfl
    exact hs i _ z H' e hz' S
theorem lcv_tup {a : Addr} {xs : List V} (zs : List V) (ha : Tup H1 a xs) (lz : zs.length = xs.length) (hz : zs.length < 1000000) (hD : H1 D = none)
    (hs : ∀ (i : Nat) (x z : V) (H' : Hp), xs[i]? = some x → zs[i]? = some z → Same H1 H' → ∀ R : VK, (∀ H4, Same H' H4 → R z H4) → g x (wipe σ vs) H' fun σ2 H2 => wipe σ2 vs = wipe σ vs ∧ te σ2 H2 R)
    (hd : ∀ H', Same H1 H' → H' D = some (.lst zs) → Qd H') :
    ∃ W : Nat → Nat → Hp → Prop, (∃ m, W 0 m (upd H1 D (.lst []))) ∧ ∀ i m H, W i m H →
      ((Itt K a).stop i H ∧ Qd H) ∨ ((Itt K a).go i H ∧ ∃ Nx : Hp → Prop, (∀ H', Nx H' → ∃ m', m' < m ∧ W (i + 1) m' H') ∧ ∀ x H', (Itt K a).yld i H x H' → g x (wipe σ vs) H' fun σ2 H2 => wipe σ2 vs = wipe σ vs ∧ tYes σ2 H2 fun b H3 =>
        if b = true then te σ2 H3 fun y H4 => ∃ acc, H4 D = some (.lst acc) ∧ acc.length < sizeLine ∧ Nx (upd H4 D (.lst (acc ++ [y]))) else Nx H3) := by
  refine lcv_wk (n := xs.length) (G := fun H => SqT K H a xs) (f := fun i => xs.getD i .non) zs ((walk_tup).mono (fun _ h => h) fun i H x H' hi _ y => ⟨y.1, ?_⟩) lz hz hD (fun H' S => (ha.same S).sq) (fun i z H' hi hz' S => ?_) hd
  · rw [List.getD_eq_getElem?_getD, y.2]; rfl
  · have e : xs[i]? = some (xs.getD i .non) := by rw [List.getD_eq_getElem?_getD, List.getElem?_eq_getElem hi]; rfl
    exact hs i _ z H' e hz' S
theorem walk_rng {lo : Int} {n : Nat} : Walk (Itr lo n) n (fun _ => True) (fun i H v H' => H' = H ∧ v = .int (lo + i)) :=
  ⟨fun i _ hi _ => hi, fun _ _ => Nat.le_refl _, fun _ _ _ _ _ _ y => ⟨y.1, y.2⟩⟩
theorem lcv_rng {lo : Int} {n : Nat} (zs : List V) (lz : zs.length = n) (hz : zs.length < 1000000) (hD : H1 D = none)
    (hs : ∀ (i : Nat) (z : V) (H' : Hp), i < n → zs[i]? = some z → Same H1 H' → ∀ R : VK, (∀ H4, Same H' H4 → R z H4) → g (.int (lo + i)) (wipe σ vs) H' fun σ2 H2 => wipe σ2 vs = wipe σ vs ∧ te σ2 H2 R)
    (hd : ∀ H', Same H1 H' → H' D = some (.lst zs) → Qd H') :
    ∃ W : Nat → Nat → Hp → Prop, (∃ m, W 0 m (upd H1 D (.lst []))) ∧ ∀ i m H, W i m H →
      ((Itr lo n).stop i H ∧ Qd H) ∨ ((Itr lo n).go i H ∧ ∃ Nx : Hp → Prop, (∀ H', Nx H' → ∃ m', m' < m ∧ W (i + 1) m' H') ∧ ∀ x H', (Itr lo n).yld i H x H' → g x (wipe σ vs) H' fun σ2 H2 => wipe σ2 vs = wipe σ vs ∧ tYes σ2 H2 fun b H3 =>
        if b = true then te σ2 H3 fun y H4 => ∃ acc, H4 D = some (.lst acc) ∧ acc.length < sizeLine ∧ Nx (upd H4 D (.lst (acc ++ [y]))) else Nx H3) :=
  lcv_wk (n := n) (G := fun _ => True) (f := fun i => .int (lo + i)) zs walk_rng lz hz hD (fun _ _ => trivial) hs hd
end
/-! with a filter: what stays is told by f over a list beside the walk -/
section
variable {K : PySem.W.Frag} {g : TG} {tt : TT} {te : TE} {vs : List Nat} {σ : L2.St} {H1 : Hp} {D : Addr} {Qd : Hp → Prop}
theorem lcf_wk {α : Type} {J : It} {n : Nat} {G : Hp → Prop} {v : Nat → V} (es : List α) (f : α → Option V) (w : Walk J n G fun i H x H' => H' = H ∧ x = v i) (le : es.length = n) (hz : n < 1000000) (hD : H1 D = none) (keep : ∀ H', Same H1 H' → G H')
    (hs : ∀ (i : Nat) (e : α) (H' : Hp), i < n → es[i]? = some e → Same H1 H' → ∀ (R : VK) (N : Hp → Prop), (∀ z H4, f e = some z → Same H' H4 → R z H4) → (∀ H4, f e = none → Same H' H4 → N H4) →
      g (v i) (wipe σ vs) H' fun σ2 H2 => wipe σ2 vs = wipe σ vs ∧ tt σ2 H2 fun b H3 => if b = true then te σ2 H3 R else N H3)
    (hd : ∀ H', Same H1 H' → H' D = some (.lst (es.filterMap f)) → Qd H') :
    ∃ W : Nat → Nat → Hp → Prop, (∃ m, W 0 m (upd H1 D (.lst []))) ∧ ∀ i m H, W i m H →
      (J.stop i H ∧ Qd H) ∨ (J.go i H ∧ ∃ Nx : Hp → Prop, (∀ H', Nx H' → ∃ m', m' < m ∧ W (i + 1) m' H') ∧ ∀ x H', J.yld i H x H' → g x (wipe σ vs) H' fun σ2 H2 => wipe σ2 vs = wipe σ vs ∧ tt σ2 H2 fun b H3 =>
        if b = true then te σ2 H3 fun y H4 => ∃ acc, H4 D = some (.lst acc) ∧ acc.length < sizeLine ∧ Nx (upd H4 D (.lst (acc ++ [y]))) else Nx H3) := by
  refine lc_it w (fun i H' => Same H1 H' ∧ H' D = some (.lst ((es.take i).filterMap f))) ⟨Same.fresh hD, upd_same⟩ (fun i H' _ p => keep H' p.1) (fun i x H' H'' hi p y => ?_) (fun H' p => ?_)
  · obtain ⟨S, hH⟩ := p
    obtain ⟨rfl, rfl⟩ := y
    have he : es[i]? = some es[i] := List.getElem?_eq_getElem (by omega)
    have tk : (es.take (i + 1)).filterMap f = (es.take i).filterMap f ++ (f es[i]).toList := by
      rw [List.take_succ, he, List.filterMap_append]
      congr 1
    refine hs i _ _ hi he S _ _ (fun z H4 hf S4 => ?_) (fun H4 hf S4 => ?_)
    · refine ⟨_, S4 _ _ hH, ?_, same_put (fun c u h => S4 _ _ (S _ _ h)) hD, ?_⟩
      · have h1 := List.length_filterMap_le f (es.take i)
        have h2 : (es.take i).length ≤ es.length := by rw [List.length_take]; omega
        exact Nat.lt_of_lt_of_le (by omega : ((es.take i).filterMap f).length < 1000000) (by decide)
      · rw [upd_same, tk, hf]; rfl
    · refine ⟨fun c u h => S4 _ _ (S _ _ h), ?_⟩
      rw [tk, hf]
      simpa using S4 _ _ hH
  · obtain ⟨S, hH⟩ := p
    rw [← le, List.take_length] at hH
    exact hd H' S hH
theorem lcf_list {α : Type} {a : Addr} {xs : List V} (es : List α) (f : α → Option V) (ha : H1 a = some (.lst xs)) (le : es.length = xs.length) (hz : xs.length < 1000000) (hD : H1 D = none)
    (hs : ∀ (i : Nat) (x : V) (e : α) (H' : Hp), xs[i]? = some x → es[i]? = some e → Same H1 H' → ∀ (R : VK) (N : Hp → Prop), (∀ z H4, f e = some z → Same H' H4 → R z H4) → (∀ H4, f e = none → Same H' H4 → N H4) →
      g x (wipe σ vs) H' fun σ2 H2 => wipe σ2 vs = wipe σ vs ∧ tt σ2 H2 fun b H3 => if b = true then te σ2 H3 R else N H3)
    (hd : ∀ H', Same H1 H' → H' D = some (.lst (es.filterMap f)) → Qd H') :
    ∃ W : Nat → Nat → Hp → Prop, (∃ m, W 0 m (upd H1 D (.lst []))) ∧ ∀ i m H, W i m H →
      ((Itl K a).stop i H ∧ Qd H) ∨ ((Itl K a).go i H ∧ ∃ Nx : Hp → Prop, (∀ H', Nx H' → ∃ m', m' < m ∧ W (i + 1) m' H') ∧ ∀ x H', (Itl K a).yld i H x H' → g x (wipe σ vs) H' fun σ2 H2 => wipe σ2 vs = wipe σ vs ∧ tt σ2 H2 fun b H3 =>
        if b = true then te σ2 H3 fun y H4 => ∃ acc, H4 D = some (.lst acc) ∧ acc.length < sizeLine ∧ Nx (upd H4 D (.lst (acc ++ [y]))) else Nx H3) := by
  refine lcf_wk (n := xs.length) (G := fun H => SqL K H a xs) (v := fun i => xs.getD i .non) es f ((walk_list).mono (fun _ h => h) fun i H x H' hi _ y => ⟨y.1, ?_⟩) le hz hD (fun H' S => SqL.of (S _ _ ha)) (fun i e H' hi he S => ?_) hd
  · rw [List.getD_eq_getElem?_getD, y.2]; rfl
  · have e' : xs[i]? = some (xs.getD i .non) := by rw [List.getD_eq_getElem?_getD, List.getElem?_eq_getElem hi]; rfl
    exact hs i _ e H' e' he S
theorem lcf_tup {α : Type} {a : Addr} {xs : List V} (es : List α) (f : α → Option V) (ha : Tup H1 a xs) (le : es.length = xs.length) (hz : xs.length < 1000000) (hD : H1 D = none)
    (hs : ∀ (i : Nat) (x : V) (e : α) (H' : Hp), xs[i]? = some x → es[i]? = some e → Same H1 H' → ∀ (R : VK) (N : Hp → Prop), (∀ z H4, f e = some z → Same H' H4 → R z H4) → (∀ H4, f e = none → Same H' H4 → N H4) →
      g x (wipe σ vs) H' fun σ2 H2 => wipe σ2 vs = wipe σ vs ∧ tt σ2 H2 fun b H3 => if b = true then te σ2 H3 R else N H3)
    (hd : ∀ H', Same H1 H' → H' D = some (.lst (es.filterMap f)) → Qd H') :
    ∃ W : Nat → Nat → Hp → Prop, (∃ m, W 0 m (upd H1 D (.lst []))) ∧ ∀ i m H, W i m H →
      ((Itt K a).stop i H ∧ Qd H) ∨ ((Itt K a).go i H ∧ ∃ Nx : Hp → Prop, (∀ H', Nx H' → ∃ m', m' < m ∧ W (i + 1) m' H') ∧ ∀ x H', (Itt K a).yld i H x H' → g x (wipe σ vs) H' fun σ2 H2 => wipe σ2 vs = wipe σ vs ∧ tt σ2 H2 fun b H3 =>
        if b = true then te σ2 H3 fun y H4 => ∃ acc, H4 D = some (.lst acc) ∧ acc.length < sizeLine ∧ Nx (upd H4 D (.lst (acc ++ [y]))) else Nx H3) := by
  refine lcf_wk (n := xs.length) (G := fun H => SqT K H a xs) (v := fun i => xs.getD i .non) es f ((walk_tup).mono (fun _ h => h) fun i H x H' hi _ y => ⟨y.1, ?_⟩) le hz hD (fun H' S => (ha.same S).sq) (fun i e H' hi he S => ?_) hd
  · rw [List.getD_eq_getElem?_getD, y.2]; rfl
  · have e' : xs[i]? = some (xs.getD i .non) := by rw [List.getD_eq_getElem?_getD, List.getElem?_eq_getElem hi]; rfl
    exact hs i _ e H' e' he S
end
/-! enumerate in a for -/
section
variable {K : PySem.W.Frag} {g : TG} {tb : TS} {D : Ends} {σ : L2.St} {H : Hp} {a : Addr} {xs : List V}
theorem for_enumL (Pv : Nat → L2.St → Hp → Prop) (h0 : Pv 0 σ H) (hl : ∀ i σ H', Pv i σ H' → SqL K H' a xs)
    (hs : ∀ i y σ H' T H2, xs[i]? = some y → Pv i σ H' → H' T = none → Same H' H2 → H2 T = some (.tup [.int (i : Nat), y]) → g (.ref T) σ H2 fun σ3 H3 => tb { D with nx := Pv (i + 1), ct := Pv (i + 1), bk := D.nx } σ3 H3)
    (hd : ∀ σ H', Pv xs.length σ H' → D.nx σ H') :
    ∃ W : Nat → Nat → L2.St → Hp → Prop, (∃ m, W 0 m σ H) ∧ ∀ i m σ H, W i m σ H →
      ((Ite K a).stop i H ∧ D.nx σ H) ∨ ((Ite K a).go i H ∧ ∃ N : L2.St → Hp → Prop, (∀ σ' H', N σ' H' → ∃ m', m' < m ∧ W (i + 1) m' σ' H') ∧ ∀ x H', (Ite K a).yld i H x H' → g x σ H' fun σ2 H2 => tb { D with nx := N, ct := N, bk := D.nx } σ2 H2) :=
  for_it (walk_enum (K := K) (xs := xs)) Pv h0 (fun i σ H' _ p => hl i σ H' p) (fun i v σ H1 H2 _ hp y => by
    obtain ⟨T, b, c, rfl, hT, rfl, hb, hc⟩ := y
    have hb : some (V.int (i : Nat)) = some b := hb
    cases hb
    exact hs i c σ H1 T _ hc hp hT (Same.fresh hT) upd_same) hd
theorem for_enumTu (Pv : Nat → L2.St → Hp → Prop) (h0 : Pv 0 σ H) (hl : ∀ i σ H', Pv i σ H' → SqT K H' a xs)
    (hs : ∀ i y σ H' T H2, xs[i]? = some y → Pv i σ H' → H' T = none → Same H' H2 → H2 T = some (.tup [.int (i : Nat), y]) → g (.ref T) σ H2 fun σ3 H3 => tb { D with nx := Pv (i + 1), ct := Pv (i + 1), bk := D.nx } σ3 H3)
    (hd : ∀ σ H', Pv xs.length σ H' → D.nx σ H') :
    ∃ W : Nat → Nat → L2.St → Hp → Prop, (∃ m, W 0 m σ H) ∧ ∀ i m σ H, W i m σ H →
      ((Itn K a).stop i H ∧ D.nx σ H) ∨ ((Itn K a).go i H ∧ ∃ N : L2.St → Hp → Prop, (∀ σ' H', N σ' H' → ∃ m', m' < m ∧ W (i + 1) m' σ' H') ∧ ∀ x H', (Itn K a).yld i H x H' → g x σ H' fun σ2 H2 => tb { D with nx := N, ct := N, bk := D.nx } σ2 H2) :=
  for_it (walk_enumT (K := K) (xs := xs)) Pv h0 (fun i σ H' _ p => hl i σ H' p) (fun i v σ H1 H2 _ hp y => by
    obtain ⟨T, b, c, rfl, hT, rfl, hb, hc⟩ := y
    have hb : some (V.int (i : Nat)) = some b := hb
    cases hb
    exact hs i c σ H1 T _ hc hp hT (Same.fresh hT) upd_same) hd
end
end KX

namespace KX
open PySem PySem.Spec PyProof.Rows L2
/-! t[::-1] of a tuple -/
section
variable {prog : Program} {w : World} {A : Around} {E : Value → Shared → Prop} {s : Shared}
theorem places_back (n : Nat) : Builtin.Slice.slicePlaces ((n : Int) - 1) (-1) (-1) = n := by
  unfold Builtin.Slice.slicePlaces
  have h1 : ¬ ((-1 : Int) > 0) := by omega
  have e : -(-1 : Int) = 1 := by decide
  simp only [h1, if_false, e, Int.ediv_one]
  split <;> omega
theorem applied_back {sl : Addr} {vl vu vs : Value} {n : Nat} {Q : Int × Int × Nat → Shared → Prop} (hs : s.heap.IsSliceOf sl vl vu vs) (pl : IsPart vl none) (pu : IsPart vu none) (ps : IsPart vs (some (-1)))
    (h : Q (((n : Int) - 1), -1, n) s) : wpAny (model prog w) A (Builtin.Slice.sliceApplied (.ref sl) (pure (n : Int))) Q E s := by
  obtain ⟨os, hos, hcs, hds⟩ := id hs
  unfold Builtin.Slice.sliceApplied Builtin.Slice.sliceFields
  refine wpAny_bind (wpAny_bind (wpAny_field hos hds (x := vl) rfl (wpAny_bind (wpAny_field hos hds (x := vu) rfl (wpAny_bind (wpAny_field hos hds (x := vs) rfl (wpAny_pure ?_)))))))
  refine wpAny_bind (HT.slicePart_ ps ?_)
  show wpAny _ _ (if ((-1 : Int) == 0) = true then _ else _) _ _ s
  rw [if_neg (by decide)]
  refine wpAny_bind (HT.slicePart_ pl (wpAny_bind (HT.slicePart_ pu (wpAny_bind (wpAny_pure ?_)))))
  have e : Builtin.Slice.sliceAdjust none none (-1) (n : Int) = ((n : Int) - 1, -1) := by
    unfold Builtin.Slice.sliceAdjust
    simp
  show wpAny _ _ (match Builtin.Slice.sliceAdjust none none (-1) (n : Int) with | (lo, hi) => pure (lo, (-1 : Int), Builtin.Slice.slicePlaces lo hi (-1))) _ _ s
  rw [e]
  show wpAny _ _ (pure ((n : Int) - 1, (-1 : Int), Builtin.Slice.slicePlaces ((n : Int) - 1) (-1) (-1))) _ _ s
  rw [places_back]
  exact wpAny_pure h
theorem pick_back (xs : Array Value) : ((List.range xs.size).filterMap fun (m : Nat) => xs[(((xs.size : Nat) : Int) - 1 + (m : Int) * (-1)).toNat]?).toArray = xs.toList.reverse.toArray := by
  congr 1
  have e : ∀ m ∈ List.range xs.size, xs[(((xs.size : Nat) : Int) - 1 + (m : Int) * (-1)).toNat]? = xs[xs.size - 1 - m]? := fun m hm => by
    have := List.mem_range.mp hm
    have e : (((xs.size : Nat) : Int) - 1 + (m : Int) * (-1)).toNat = xs.size - 1 - m := by omega
    rw [e]
  have e2 : ((List.range xs.size).filterMap fun (m : Nat) => xs[(((xs.size : Nat) : Int) - 1 + (m : Int) * (-1)).toNat]?) = (List.range xs.size).filterMap fun m => xs[xs.size - 1 - m]? := by
    have gen : ∀ l : List Nat, (∀ m ∈ l, m ∈ List.range xs.size) → (l.filterMap fun (m : Nat) => xs[(((xs.size : Nat) : Int) - 1 + (m : Int) * (-1)).toNat]?) = l.filterMap fun m => xs[xs.size - 1 - m]? := by
      intro l
      induction l with
      | nil => intro _; rfl
      | cons a l ih =>
        intro h
        rw [List.filterMap_cons, List.filterMap_cons, e a (h a List.mem_cons_self), ih fun m hm => h m (List.mem_cons_of_mem _ hm)]
    exact gen _ fun _ h => h
  rw [e2]
  have e3 := PySem.W.krv_range xs.size
  have e4 : ((List.range xs.size).filterMap fun m => xs[xs.size - 1 - m]?) = ((List.range xs.size).map fun k => xs.size - 1 - k).filterMap fun k => xs[k]? := by
    rw [List.filterMap_map]; rfl
  rw [e4, e3, List.filterMap_reverse]
  congr 1
  exact PySem.W.krv_all xs
theorem getItem_tuple_back {t sl : Addr} {items : Array Value} {vl vu vs : Value} {Q : Value → Shared → Prop} (ht : IsTup s.heap t items) (hs : s.heap.IsSliceOf sl vl vu vs) (pl : IsPart vl none) (pu : IsPart vu none) (ps : IsPart vs (some (-1)))
    (h : Q (.ref s.heap.objs.size) { s with heap := s.heap.push { cls := .type "tuple", data := .seq items.toList.reverse.toArray } })
    (hsz : items.size ≤ sizeLine) : wpAny (model prog w) A (getItem (.ref t) (.ref sl)) Q E s := by
  have htake : sizeOk (.seq items.toList.reverse.toArray) := by
    show items.toList.reverse.toArray.size ≤ sizeLine
    rw [List.size_toArray, List.length_reverse, Array.length_toList]
    exact hsz
  obtain ⟨os, hos, hcs, hds⟩ := id hs
  have hTs : s.TypeIs (.ref sl) "slice" := ⟨os, hos, hcs⟩
  unfold getItem
  try with_reducible refine wpAny_holding ?_
  first | refine wpAny_bind (wpAny_pure ?_) | skip
  refine wpAny_bind (wpAny_sequenceKey ht.typeIs (by decide) ?_)
  refine wpAny_bind (wpAny_callSpecial?_slot (name := Str.ofString "__getitem__") ht.typeIs PyProof.Rows.slot_tuple_getitem
    (wpAny_call_entry PyProof.Rows.slot_tuple_getitem ht.typeIs entry_tuple_getitem ?_ (args_tuple_getitem _ _)))
  show wpAny _ _ (Builtin.Tuple.tupleItemsOf (.ref t) >>= _) _ _ s
  refine wpAny_bind (tupleItemsOf_ ht ?_)
  refine wpAny_bind (wpAny_typeOf hTs ?_)
  rw [if_pos (by decide)]
  refine wpAny_bind (applied_back (n := items.size) hs pl pu ps ?_)
  have hno : ¬ ((((items.size : Nat) : Int) - 1 == 0 && (-1 : Int) == 1 && items.size == items.size) = true) := by
    intro q
    rw [Bool.and_eq_true, Bool.and_eq_true] at q
    exact absurd q.1.2 (by decide)
  show wpAny _ _ (if (((items.size : Nat) : Int) - 1 == 0 && (-1 : Int) == 1 && items.size == items.size) = true then _ else _) _ _ s
  rw [if_neg hno, pick_back]
  first
    | exact wpAny_bind (m := Builtin.Tuple.tupleExact _) (wpAny_newObj_type (wpAny_pure ⟨_, rfl, wpAny_pure h⟩) htake)
    | exact wpAny_bind (m := Builtin.Tuple.tupleExact _) (wpAny_newObj_type (wpAny_bind (wpAny_pure (wpAny_pure ⟨_, rfl, wpAny_pure h⟩))) htake)
    | exact wpAny_bind (wpAny_bind (m := Builtin.Tuple.tupleExact _) (wpAny_newObj_type (wpAny_pure (wpAny_pure ⟨_, rfl, wpAny_pure h⟩)) htake))
    | exact wpAny_bind (wpAny_bind (m := Builtin.Tuple.tupleExact _) (wpAny_newObj_type (wpAny_pure ⟨_, rfl, wpAny_pure h⟩) htake))
end
section
variable {X : Cx} {K : PySem.W.Frag}
/-- t[::-1] -/
def tRevT (K : PySem.W.Frag) (te : TE) : TE := fun σ H Q => te σ H fun x H1 => ∃ a xs, x = .ref a ∧ Tup H1 a xs ∧ ∀ H' p, Same H1 H' → H1 p = none → H' p = some (.tup xs.reverse) → Q (.ref p) H'
theorem pe_revT {e : Expr} {te : TE} {k : Nat} {p1 p2 p3 pos : Pos} (he : PE X e te) : PE X (.Subscript e (.Slice none none (some (.UnaryOp .USub (.Constant (.int 1) k p1) p2)) p3) pos) (tRevT K te) := by
  refine ⟨fun pins s σ H Q I h => ?_⟩
  refine Subscript_ (thn (he.run pins s σ H _ I h) fun v s1 ⟨x, H1, I1, r1, q1⟩ => ?_)
  obtain ⟨a, xs, ex, hx, q⟩ := q1
  subst ex
  cases r1
  have hst : PO X (some (.UnaryOp .USub (.Constant (.int 1) k p1) p2)) (tPart (tUn (rU fun i => .int (-i)) (tC (.int 1)))) := po_some (pe_un un_neg pe_int)
  refine wpAny_Slice (thn (po_none.run pins s1 σ H1 (fun o H2 => o = none ∧ H2 = H1) I1 ⟨rfl, rfl⟩) fun vl s2 ⟨l, H2, I2, pl, el, e2⟩ => ?_)
  subst el e2
  refine thn (po_none.run pins s2 σ H2 (fun o H3 => o = none ∧ H3 = H2) I2 ⟨rfl, rfl⟩) fun vu s3 ⟨u, H3, I3, pu, eu, e3⟩ => ?_
  subst eu e3
  refine thn (hst.run pins s3 σ H3 (fun o H4 => o = some (-1) ∧ H4 = H3) I3 ⟨1, rfl, -1, rfl, rfl, rfl⟩) fun vs s4 ⟨o, H4, I4, ps, eo, e4⟩ => ?_
  subst eo e4
  have I5 : Inv X pins σ H4 { s4 with heap := s4.heap.push { cls := .type "slice", data := .fields #[vl, vu, vs] } } := I4.kept (t' := s4.toks) fun b ob q => Heap.get?_push_of_some _ q
  obtain ⟨its, r, ht, hz⟩ := I5.tuple hx.sq
  have hlen := r.length
  show wpAny (model X.prog X.w) X.A (subscriptTail e (.Slice none none (some (.UnaryOp .USub (.Constant (.int 1) k p1) p2)) p3) (.ref a) (.ref s4.heap.objs.size)) (EP X pins σ Q) X.xe { s4 with heap := s4.heap.push { cls := .type "slice", data := .fields #[vl, vu, vs] } }
  refine tail_any (ops := [.ref a, .ref s4.heap.objs.size]) ht.typeIs (PyProof.Rows.slot_tuple_getitem.lookup) ?_ (by with_unfolding_all rfl)
  refine getItem_tuple_back ht (Heap.IsSliceOf.new _ vl vu vs) pl pu ps ?_ (by rw [List.size_toArray]; omega)
  refine ⟨.ref _, _, I5.laid (t' := s4.toks) (o := .tup xs.reverse) (fun b ob q => Heap.get?_push_of_some _ q) (Nat.le_refl _) ?_, rfl, q _ _ (Same.fresh (I5.hok.fresh (Nat.le_refl _))) (I5.hok.fresh (Nat.le_refl _)) upd_same⟩
  exact ⟨by rw [List.length_reverse]; exact hz, _, r.reverse, IsTup.new _ _⟩
theorem rd_revT {te : TE} {σ : L2.St} {H : Hp} {Q : VK} (h : te σ H fun x H1 => ∃ a xs, x = .ref a ∧ Tup H1 a xs ∧ NewO H1 (.tup xs.reverse) Q) : tRevT K te σ H Q := by
  have e : (fun x H1 => ∃ a xs, x = V.ref a ∧ Tup H1 a xs ∧ NewO H1 (.tup xs.reverse) Q) = (fun x H1 => ∃ a xs, x = V.ref a ∧ Tup H1 a xs ∧ ∀ H' p, Same H1 H' → H1 p = none → H' p = some (.tup xs.reverse) → Q (.ref p) H') := by
    funext x H1
    refine propext ⟨fun ⟨a, xs, h1, h2, h3⟩ => ⟨a, xs, h1, h2, fun H' p s n e => h3 p H' n s e⟩, fun ⟨a, xs, h1, h2, h3⟩ => ⟨a, xs, h1, h2, fun p H' n s e => h3 H' p s n e⟩⟩
  show te σ H _
  rw [← e]
  exact h
end
end KX

namespace KX
open PySem PySem.Spec PyProof.Rows L2
/-! sorted of a list of data that are alike -/
def rSortD (K : PySem.W.Frag) : List V → Hp → VK → Prop := fun vs H Q => ∃ (β : Type) (enc : β → PyData) (a : Addr) (xs : List V) (bs : List β) (F : V → β → Prop), vs = [V.ref a] ∧ SqL K H a xs ∧ Paired F xs bs ∧ (∀ x b, F x b → Dp K H x (enc b)) ∧
  (∀ b b', PySem.W.alike (enc b) (enc b') = true) ∧ (∀ b, ∃ x r, enc b = .tuple (x :: r)) ∧ (∀ b, (enc b).depth ≤ 60) ∧
  ∀ ys p, Paired F ys (bs.mergeSort (PySem.W.dataLe false enc)) → H p = none → Q (.ref p) (upd H p (.lst ys))
theorem each_zip {β : Type} {F : V → β → Prop} {xs : List V} {bs : List β} {its : List Value} (r : Vals xs its) (p : Paired F xs bs) : PySem.W.EachIs (fun u (z : V × β) => RelV z.1 u) its (xs.zip bs) := by
  induction p generalizing its with
  | nil => cases r; exact .nil
  | cons a _ ih =>
    cases r with
    | cons r1 r2 => exact .cons r1 (ih r2)
theorem each_reads {X : Cx} {pins : List (Addr × Obj)} {σ : L2.St} {H : Hp} {s : Shared} {β : Type} {F : V → β → Prop} {enc : β → PyData} {xs : List V} {bs : List β} {its : List Value} (I : L2.Inv X pins σ H s) (r : Vals xs its) (p : Paired F xs bs) (hd : ∀ x b, F x b → Dp X.K H x (enc b)) :
    PySem.W.EachIs (fun u (z : V × β) => ∃ as, Reads s.heap u (enc z.2) as) its (xs.zip bs) := by
  induction p generalizing its with
  | nil => cases r; exact .nil
  | cons a _ ih =>
    cases r with
    | cons r1 r2 => exact .cons (Dp.reads I _ _ _ (hd _ _ a) r1) (ih r2)
theorem paired_zip {β : Type} {F : V → β → Prop} {xs : List V} {bs : List β} (p : Paired F xs bs) : (∀ z ∈ xs.zip bs, F z.1 z.2) ∧ (xs.zip bs).map (·.2) = bs := by
  induction p with
  | nil => exact ⟨by simp, rfl⟩
  | cons a _ ih =>
    refine ⟨fun z hz => ?_, ?_⟩
    · rcases List.mem_cons.mp hz with e | e
      · rw [e]; exact a
      · exact ih.1 z e
    · have := ih.2
      exact congrArg (_ :: ·) this
theorem paired_of {β : Type} {F : V → β → Prop} : ∀ zs : List (V × β), (∀ z ∈ zs, F z.1 z.2) → Paired F (zs.map (·.1)) (zs.map (·.2))
  | [], _ => .nil
  | z :: zs, h => .cons (h z List.mem_cons_self) (paired_of zs fun y hy => h y (List.mem_cons_of_mem _ hy))
theorem vals_each {β : Type} : ∀ {out : List Value} {zs : List (V × β)}, PySem.W.EachIs (fun u (z : V × β) => RelV z.1 u) out zs → Vals (zs.map (·.1)) out
  | _, _, .nil => .nil
  | _, _, .cons a t => .cons a (vals_each t)
theorem cr_sortedD {X : Cx} (hu : X.A.units + 64 < cLine) : CallR X (.builtin "sorted") (rSortD X.K) := by
  intro pins s σ H vs us Q I r h
  obtain ⟨β, enc, a, xs, bs, F, rfl, hs, hp, hd, hal, htp, hdep, q⟩ := h
  obtain ⟨its, rv, hl, hz⟩ := I.list hs
  rw [Vals.ref1 r]
  obtain ⟨pz, pe⟩ := paired_zip hp
  have em : (xs.zip bs).map (fun z => enc z.2) = bs.map enc := by
    have : (xs.zip bs).map (fun z => enc z.2) = ((xs.zip bs).map (·.2)).map enc := by rw [List.map_map]; rfl
    rw [this, pe]
  refine PySem.W.sorted_data (bs := xs.zip bs) (enc := fun z => enc z.2) (R := fun u (z : V × β) => RelV z.1 u) hl.isList (each_zip rv hp) (each_reads I rv hp hd) (PySem.W.AllAlike.of fun z z' => hal z.2 z'.2) (PySem.W.Sortable.tuples fun z => htp z.2)
    (by rw [List.length_zip]; omega) (fun z _ => by have := hdep z.2; omega) fun out lo eo => ?_
  have hout := vals_each eo
  have ez : ((xs.zip bs).mergeSort (PySem.W.dataLe false fun z => enc z.2)).map (·.2) = bs.mergeSort (PySem.W.dataLe false enc) := by
    rw [List.map_mergeSort (r := PySem.W.dataLe false fun z : V × β => enc z.2) (s := PySem.W.dataLe false enc) (f := fun z : V × β => z.2) (fun a _ b _ => rfl), pe]
  have pf : Paired F (((xs.zip bs).mergeSort (PySem.W.dataLe false fun z => enc z.2)).map (·.1)) (bs.mergeSort (PySem.W.dataLe false enc)) := by
    rw [← ez]
    exact paired_of _ fun z hz => pz z ((List.mergeSort_perm _ _).mem_iff.mp hz)
  obtain ⟨ep, he'⟩ := PyProof.Rows.sortedAll_at s.heap its out.toArray
  refine ⟨.ref _, upd H (s.heap.objs.size + 1) (.lst (((xs.zip bs).mergeSort (PySem.W.dataLe false fun z => enc z.2)).map (·.1))), I.laid (t' := s.toks) (fun _ _ => PyProof.Rows.sortedAll_old) (Nat.le_succ _) ⟨?_, out, ep, hout, he'⟩, rfl, q _ _ pf (I.hok.fresh (Nat.le_succ _))⟩
  rw [List.length_map, (List.mergeSort_perm _ _).length_eq, List.length_zip]
  omega
theorem cr_sortedDK {X : Cx} {K : PySem.W.Frag} (hu : X.A.units + 64 < cLine) (hK : X.K = K := by rfl) : CallR X (.builtin "sorted") (rSortD K) := by subst hK; exact cr_sortedD hu
end KX

namespace KX
open PySem PySem.Spec PyProof.Rows L2
/-! min of a tuple of ints; a list times a number; an item set -/
theorem minOf_le : ∀ (xs : List Int) (x : Int), PySem.W.minOf x xs ∈ x :: xs ∧ ∀ y ∈ x :: xs, PySem.W.minOf x xs ≤ y
  | [], x => ⟨List.mem_cons_self, fun y hy => by
      have : y = x := by simpa using hy
      rw [this]; exact Int.le_refl _⟩
  | z :: xs, x => by
    have e : PySem.W.minOf x (z :: xs) = PySem.W.minOf (if z < x then z else x) xs := by
      show List.foldl _ (if decide (z < x) = true then z else x) xs = List.foldl _ (if z < x then z else x) xs
      by_cases c : z < x
      · rw [if_pos (decide_eq_true c), if_pos c]
      · rw [if_neg (by simp [c]), if_neg c]
    rw [e]
    obtain ⟨h1, h2⟩ := minOf_le xs (if z < x then z else x)
    have h3 := h2 _ List.mem_cons_self
    refine ⟨?_, fun y hy => ?_⟩
    · rcases List.mem_cons.mp h1 with y | y
      · rw [y]
        by_cases c : z < x
        · rw [if_pos c]; simp
        · rw [if_neg c]; simp
      · exact List.mem_cons_of_mem _ (List.mem_cons_of_mem _ y)
    · rcases List.mem_cons.mp hy with w | w
      · rw [w]
        by_cases c : z < x
        · rw [if_pos c] at h3; rw [if_pos c]; omega
        · rw [if_neg c] at h3; rw [if_neg c]; exact h3
      · rcases List.mem_cons.mp w with w | w
        · rw [w]
          by_cases c : z < x
          · rw [if_pos c] at h3; rw [if_pos c]; exact h3
          · rw [if_neg c] at h3; rw [if_neg c]; omega
        · exact h2 y (List.mem_cons_of_mem _ w)
def rMinT (K : PySem.W.Frag) : List V → Hp → VK → Prop := fun vs H Q => ∃ (a : Addr) (ns : List Int), vs = [V.ref a] ∧ SqT K H a (ns.map V.int) ∧ 0 < ns.length ∧ ∀ m, m ∈ ns → (∀ y, y ∈ ns → m ≤ y) → Q (.int m) H
theorem cr_minT {X : Cx} (hc : X.calm = true) (hu : X.A.units + 64 < cLine) : CallR X (.builtin "min") (rMinT X.K) := by
  intro pins s σ H vs us Q I r h
  obtain ⟨a, ns, rfl, hs, hne, q⟩ := h
  obtain ⟨its, rv, ht, _⟩ := I.tuple hs
  rw [Vals.ref1 r]
  have hi := rv.ints
  cases ns with
  | nil => exact absurd hne (by simp)
  | cons n ns =>
    refine PySem.W.min_tuple_datum (α := Int) (x := n) (xs := ns) (I.ok.hd hc) ht (by simpa using PySem.W.HoldAll.of_ints hi) ?_ fun i v h' tk hv hh hk => ?_
    · have : PySem.W.Datum.depth Int ≤ 60 := by decide
      omega
    · obtain ⟨t, rfl⟩ := PySem.W.int_of_holds hh
      obtain ⟨h1, h2⟩ := minOf_le ns n
      exact ⟨.int _, H, I.kept hk, ⟨_, rfl⟩, q _ h1 h2⟩
theorem cr_minTK {X : Cx} {K : PySem.W.Frag} (hc : X.calm = true) (hu : X.A.units + 64 < cLine) (hK : X.K = K := by rfl) : CallR X (.builtin "min") (rMinT K) := by subst hK; exact cr_minT hc hu
/-- the least of a list of numbers -/
def leastI (l : List Int) : Int := match l with
  | [] => 0
  | x :: xs => PySem.W.minOf x xs
theorem leastI_of {l : List Int} {m : Int} (hm : m ∈ l) (h : ∀ y ∈ l, m ≤ y) : m = leastI l := by
  cases l with
  | nil => cases hm
  | cons x xs =>
    obtain ⟨h1, h2⟩ := minOf_le xs x
    have a := h _ h1
    have b := h2 _ hm
    show m = PySem.W.minOf x xs
    omega
theorem rd_minT {K : PySem.W.Frag} {H : Hp} {Q : VK} {p : Addr} {ns : List Int} (ha : Tup H p (ns.map V.int)) (hn : 0 < ns.length) (h : Q (.int (leastI ns)) H) : rMinT K [.ref p] H Q :=
  ⟨p, ns, rfl, ha.sq, hn, fun m h1 h2 => by rw [leastI_of h1 h2]; exact h⟩
theorem rd_min {K : PySem.W.Frag} {H : Hp} {Q : VK} {p : Addr} {ns : List Int} (ha : H p = some (.lst (ns.map V.int))) (hn : 0 < ns.length) (h : Q (.int (leastI ns)) H) : rMin K [.ref p] H Q :=
  ⟨p, ns, rfl, SqL.of ha, hn, fun m h1 h2 => by rw [leastI_of h1 h2]; exact h⟩
theorem rd_sum {K : PySem.W.Frag} {H : Hp} {Q : VK} {p : Addr} {ns : List Int} (ha : H p = some (.lst (ns.map V.int))) (h : Q (.int ns.sum) H) : rSum K [.ref p] H Q := ⟨p, ns, rfl, SqL.of ha, h⟩
theorem rd_all {K : PySem.W.Frag} {H : Hp} {Q : VK} {p : Addr} {bs : List Bool} (ha : H p = some (.lst (bs.map V.bl))) (h : Q (.bl (bs.all id)) H) : rAll K [.ref p] H Q := ⟨p, bs, rfl, SqL.of ha, h⟩
theorem flat_one (k : Nat) (v : V) : (List.replicate k [v]).flatten = List.replicate k v := by
  induction k with
  | zero => rfl
  | succ k ih => rw [List.replicate_succ, List.flatten_cons, ih]; rfl
/-- [v] * k -/
theorem rd_rep1 {H : Hp} {Q : VK} {l : Addr} {k : Nat} {v : V} (hl : H l = some (.lst [v])) (hk : k < 1000) (h : NewO H (.lst (List.replicate k v)) Q) : rRep (.ref l) (.int (k : Nat)) H Q :=
  ⟨l, k, [v], rfl, rfl, hl, by omega, by omega, by
    have : ((k : Nat) : Int).toNat = k := by omega
    rw [this]
    exact Nat.le_trans (by simp; omega : [v].length * k ≤ 1000) (by decide), fun p hp => by
    have : ((k : Nat) : Int).toNat = k := by omega
    rw [this, flat_one]
    exact new_of h p hp⟩
theorem rd_setL {H : Hp} {p : Addr} {xs : List V} {k : Int} {v : V} {Q : Hp → Prop} (hp : H p = some (.lst xs)) (h0 : 0 ≤ k) (h1 : k < xs.length) (h : Q (upd H p (.lst (xs.set k.toNat v)))) : rSetL (.ref p) (.int k) v H Q :=
  ⟨p, xs, k, k.toNat, rfl, rfl, hp, by
    unfold ixN
    rw [if_pos h0]
    first
      | (rw [if_pos (by omega)])
      | (split <;> first | rfl | omega), h⟩
/-- t + u of tuples -/
theorem rd_catW {H : Hp} {Q : VK} {a b : Addr} {xs ys : List V} (ha : Tup H a xs) (hb : Tup H b ys) (hl : xs.length + ys.length ≤ 1000) (h : ∀ H' p, Same H H' → Tup H' p (xs ++ ys) → Q (.ref p) H') : rCatW (.ref a) (.ref b) H Q :=
  ⟨a, b, xs, ys, rfl, rfl, ha, hb, Nat.le_trans hl (by decide), h⟩
theorem rd_slW {H : Hp} {Q : VK} {a : Addr} {xs : List V} {lo hi : Option Int} (ha : Tup H a xs) (h : ∀ H' p, Same H H' → Tup H' p (cutV xs lo hi) → Q (.ref p) H') : rSlW (.ref a) lo hi H Q := ⟨a, xs, rfl, ha, h⟩
end KX

namespace KX
open PySem PySem.Spec PyProof.Rows L2
/-! ### xs[i] += e of a list: the read -/
/-- the entry of a list at a place that is there (for xs[i] op= e: the read of ps_augS) -/
def rGetL (K : PySem.W.Frag) : V → V → Hp → VK → Prop := fun o i H Q => ∃ p xs k v, o = .ref p ∧ i = .int k ∧ SqL K H p xs ∧ 0 ≤ k ∧ xs[k.toNat]? = some v ∧ Q v H
theorem get_list {X : Cx} : PGet X (rGetL X.K) := by
  intro pins s σ H o i ov iv Q I ro ri h
  obtain ⟨p, xs, k, v, rfl, rfl, hx, h0, hv, hQ⟩ := h
  cases ro
  obtain ⟨t, rfl⟩ := ri
  obtain ⟨its, r, ht, hz⟩ := I.list hx
  have hl := r.length
  obtain ⟨hk, hv2⟩ := List.getElem?_eq_some_iff.mp hv
  obtain ⟨u, hu, ru⟩ := r.get hv
  have hz2 : (PySem.sizeLine : Nat) < 2 ^ 63 := by decide +kernel
  refine wpAny_getItem_list ht.isList h0 (by omega) (x := u) (by rw [List.getElem?_toArray]; exact hu) ⟨v, H, I, ru, hQ⟩
/-! ### (v,) * k -/
/-- t * 1, t * 0 of a tuple with entries -/
def rRep01 (K : PySem.W.Frag) : R2 := fun x y H Q => ∃ l k xs, x = .ref l ∧ y = .int k ∧ SqT K H l xs ∧ xs ≠ [] ∧ ((k = 1 ∧ Q (.ref l) H) ∨ (k = 0 ∧ NewO H (.tup []) Q))
theorem op_rep01 {X : Cx} : OpR X (binaryOp .Mult) (rRep01 X.K) := by
  intro pins s σ H x y v u Q I rx ry h
  obtain ⟨l, k, xs, rfl, rfl, hx, ne, hk⟩ := h
  cases rx
  obtain ⟨t, rfl⟩ := ry
  obtain ⟨its, r, ht, hz⟩ := I.tuple hx
  have hl := r.length
  obtain ⟨o, ho, hc, n, hd⟩ := ht
  obtain ⟨oc, od, oda, osl⟩ := o
  cases hc
  cases hd
  have ht : IsTup s.heap l its.toArray := ⟨_, ho, rfl, n, rfl⟩
  refine wpAny_binaryOp_repeat_ref (T := "tuple") (U := "int") (id := "tuple.__mul__") (idr := "int.__rmul__") (ix := .builtin "int.__index__") (by decide) ht.typeIs (fun s' => rfl) L2.noFill_tuple_mul (by with_unfolding_all rfl) F.slot_int_rmul L2.repeat_tuple (by with_unfolding_all rfl) ?_
  refine call_meets F.slot_int_rmul rfl F.entry_int_rmul (by with_unfolding_all rfl) (L2.int_rmul_tuple k t l its.toArray n od osl) ⟨ho, rfl, ht.typeIs, ?_⟩
  refine wpAny_call_entry F.slot_tuple_mul ht.typeIs F.entry_tuple_mul ?_ (F.args_tuple_mul_2 _ _)
  have hne : its.toArray.isEmpty = false := by
    cases its with
    | nil => exact absurd (List.length_eq_zero_iff.mp hl) ne
    | cons a b => rfl
  rcases hk with ⟨rfl, hQ⟩ | ⟨rfl, hQ⟩
  · show wpAny _ _ (asIndex (.int 1 t) >>= _) _ _ s
    refine wpAny_bind (m := asIndex (.int 1 t)) (wpAny_bind (wpAny_pure (wpAny_pure ?_)))
    show wpAny _ _ (Builtin.Tuple.tupleItemsOf (.ref l) >>= _) _ _ s
    refine wpAny_bind (tupleItemsOf_ ht ?_)
    show wpAny _ _ (if (its.toArray.isEmpty || (1 : Int) == 1) = true then _ else _) _ _ s
    rw [if_pos (by rw [hne]; decide)]
    refine wpAny_bind (m := Builtin.Tuple.tupleIsExact (.ref l)) (wpAny_bind (wpAny_typeOf ht.typeIs (wpAny_pure ?_)))
    rw [if_pos (by decide)]
    first
      | exact wpAny_bind (wpAny_rule (wpAny_pure ⟨_, rfl, .ref l, H, I, rfl, hQ⟩))
      | exact wpAny_bind (wpAny_pure (wpAny_pure ⟨_, rfl, .ref l, H, I, rfl, hQ⟩))
      | exact wpAny_pure ⟨_, rfl, .ref l, H, I, rfl, hQ⟩
  · show wpAny _ _ (asIndex (.int 0 t) >>= _) _ _ s
    refine wpAny_bind (m := asIndex (.int 0 t)) (wpAny_bind (wpAny_pure (wpAny_pure ?_)))
    show wpAny _ _ (Builtin.Tuple.tupleItemsOf (.ref l) >>= _) _ _ s
    refine wpAny_bind (tupleItemsOf_ ht ?_)
    show wpAny _ _ (if (its.toArray.isEmpty || (0 : Int) == 1) = true then _ else _) _ _ s
    rw [if_neg (by rw [hne]; decide)]
    show wpAny _ _ (if (decide ((0 : Int) ≤ 0) || its.toArray.isEmpty) = true then _ else _) _ _ s
    rw [if_pos (by rw [hne]; decide)]
    have I5 : Inv X pins σ (upd H s.heap.objs.size (.tup [])) { s with heap := s.heap.push { cls := .type "tuple", data := .seq #[] } } :=
      I.laid (t' := s.toks) (o := .tup []) (fun b ob q => Heap.get?_push_of_some _ q) (Nat.le_refl _) ⟨by decide +kernel, _, .nil, IsTup.new _ _⟩
    refine wpAny_bind (m := Builtin.Tuple.tupleExact _) (wpAny_newObj_type ?_ (by show (0 : Nat) ≤ _; exact Nat.zero_le _))
    refine wpAny_pure ⟨_, rfl, .ref _, _, I5, rfl, hQ _ _ (I.hok.fresh (Nat.le_refl _)) (Same.fresh (I.hok.fresh (Nat.le_refl _))) upd_same⟩
/-- (v,) * k of any small number: a tuple of k times v -/
def rRepW : R2 := fun x y H Q => ∃ (l : Addr) (k : Nat) (v : V), x = .ref l ∧ y = .int k ∧ Tup H l [v] ∧ k ≤ 1000 ∧ ∀ H' a, Same H H' → Tup H' a (List.replicate k v) → Q (.ref a) H'
theorem op_repW {X : Cx} : OpR X (binaryOp .Mult) rRepW := by
  intro pins s σ H x y v u Q I rx ry h
  obtain ⟨l, k, w, e1, e2, hx, hk, hQ⟩ := h
  match k, hk, e2, hQ with
  | 0, _, e2, hQ => exact op_rep01 pins s σ H x y v u Q I rx ry ⟨l, 0, [w], e1, e2, hx.sq, by simp, .inr ⟨rfl, fun p H' n S e => hQ H' p S (Tup.of e)⟩⟩
  | 1, _, e2, hQ => exact op_rep01 pins s σ H x y v u Q I rx ry ⟨l, 1, [w], e1, e2, hx.sq, by simp, .inl ⟨rfl, hQ H l (Same.refl H) hx⟩⟩
  | k + 2, hk, e2, hQ =>
    refine op_repT pins s σ H x y v u Q I rx ry ⟨l, _, [w], e1, e2, hx.sq, by simp, by omega, by omega, by simp, fun p hp => hQ _ p (Same.fresh hp) (Tup.of ?_)⟩
    have e : (((k + 2 : Nat) : Int)).toNat = k + 2 := by omega
    rw [e, flat_one]
    exact upd_same
end KX

namespace KX
open PySem PySem.Spec PyProof.Rows L2
section
variable {prog : Program} {w : World} {A : Around} {E : Value → Shared → Prop} {s : Shared}
/-- sorted(t, reverse=b) of a tuple of whole numbers -/
theorem sorted_tupR {l : Addr} {vs : List Value} {ns : List Int} {n : Nat} {dd : Option Addr} {sl : Array (Option Value)} {b : Bool} {Q : Value → Shared → Prop}
    (hl : s.heap.get? l = some ⟨.type "tuple", dd, .seq vs.toArray n, sl⟩) (hI : IntsAre vs ns) (hz : vs.length ≤ sizeLine)
    (h : ∀ (out : Array Value) (ns' : List Int), IntsAre out.toList ns' → ns'.Perm ns → Ordered b ns' →
      Q (.ref (s.heap.objs.size + 1)) { s with heap := sortedAll s.heap vs out }) :
    wpAny (model prog w) A (call (.builtin "sorted") [.ref l] [(Str.ofString "reverse", .bool b)]) Q E s := by
  refine call_function_entry_kw kind_sorted plain_sorted entry_sorted (args_sorted_rev _ _) ?_
  unfold Builtin.«sorted»
  refine wpAny_bind (m := checkCount "sorted" 1 1 _) (wpAny_pure ?_)
  apply wpAny_bind
  refine collect_tup hl hz ?_
  apply wpAny_bind
  refine wpAny_newList ?_ (hsz := hz)
  have hs2 : ((s.heap.push (seqObj "list" #[] 0)).update s.heap.objs.size
      (Obj.mapSeq (· ++ vs.toArray))).objs.size = s.heap.objs.size + 1 := by
    rw [Heap.size_update]
    exact Heap.size_push ..
  have ho : (((s.heap.push (seqObj "list" #[] 0)).update s.heap.objs.size
      (Obj.mapSeq (· ++ vs.toArray))).push (seqObj "list" vs.toArray 0)).get? (s.heap.objs.size + 1) =
      some (seqObj "list" vs.toArray 0) := by
    rw [← hs2]
    exact Heap.get?_push_size _ rfl
  show wpAny _ _ _ _ _
    { s with heap := (((s.heap.push (seqObj "list" #[] 0)).update s.heap.objs.size
      (Obj.mapSeq (· ++ vs.toArray))).push (seqObj "list" vs.toArray 0)) }
  rw [hs2]
  apply wpAny_bind
  apply wpAny_holding
  refine wpAny_call_entry_kw slot_list_sort ⟨_, ho, rfl⟩ entry_list_sort ?_ (args_list_sort_rev _ _)
  refine SrtR.list_sort_ordR SrtO.swo_int ho hz (fun h2 => SrtO.ints_sortable hI h2) fun out h1 h2 => ⟨_, rfl, ?_⟩
  obtain ⟨ns', a1, a2, a3⟩ := SrtR.ints_outR hI h1 h2
  exact wpAny_pure ⟨_, rfl, h _ ns' a1 a2 a3⟩
end
def rSortRevT (K : PySem.W.Frag) (b : Bool) : List V → List V → Hp → VK → Prop := fun vs zs H Q => ∃ (a : Addr) (ns : List Int), vs = [V.ref a] ∧ zs = [V.bl b] ∧ Tup H a (ns.map V.int) ∧
  ∀ (ns' : List Int) (p : Addr) (H' : Hp), ns'.Perm ns → OrdB b ns' → H p = none → Same H H' → H' p = some (.lst (ns'.map V.int)) → Q (.ref p) H'
theorem cr_sortedRevT {X : Cx} {b : Bool} : CallRK X (.builtin "sorted") [Str.ofString "reverse"] (rSortRevT X.K b) := by
  intro pins s σ H xs zs us ws Q I r rz h
  obtain ⟨a, ns, rfl, rfl, hs, q⟩ := h
  obtain ⟨its, rv, ⟨⟨cls, dd, data, sl⟩, ho, hc, n, hd⟩, hz⟩ := I.tuple hs.sq
  simp only at hc hd
  subst hc hd
  rw [Vals.ref1 r]
  obtain ⟨wv, rfl, rb⟩ := rz.one
  cases rb
  have hi := rv.ints
  have hl := rv.length
  refine sorted_tupR ho hi (by omega) fun out ns' h1 h2 h3 => ?_
  obtain ⟨ep, he⟩ := sortedAll_at s.heap its out
  have hlen : (ns'.map V.int).length ≤ sizeLine := by
    rw [List.length_map, h2.length_eq]
    rw [List.length_map] at hz
    exact hz
  have nf := I.hok.fresh (Nat.le_succ s.heap.objs.size)
  refine ⟨.ref _, upd H (s.heap.objs.size + 1) (.lst (ns'.map V.int)), ?_, rfl, q ns' _ _ h2 h3 nf (Same.fresh nf) upd_same⟩
  exact I.laid (t' := s.toks) (fun _ _ => sortedAll_old) (Nat.le_succ _) ⟨hlen, out.toList, ep, vals_of_ints h1, he⟩
/-! max(list, default=d) of whole numbers -/
theorem foldmax : ∀ (ns : List Int) (n : Int), ns.foldl max n ∈ n :: ns ∧ ∀ y ∈ n :: ns, y ≤ ns.foldl max n
  | [], n => ⟨List.mem_singleton.mpr rfl, fun y hy => by rw [List.mem_singleton.mp hy]; exact Int.le_refl _⟩
  | m :: ns, n => by
    obtain ⟨h1, h2⟩ := foldmax ns (max n m)
    show ns.foldl max (max n m) ∈ _ ∧ ∀ y ∈ n :: m :: ns, y ≤ ns.foldl max (max n m)
    have h3 := h2 (max n m) (List.mem_cons_self ..)
    constructor
    · rcases List.mem_cons.mp h1 with e | e
      · rw [e]
        by_cases c : n ≤ m
        · rw [show max n m = m by omega]; simp
        · rw [show max n m = n by omega]; simp
      · exact List.mem_cons_of_mem _ (List.mem_cons_of_mem _ e)
    · intro y hy
      rcases List.mem_cons.mp hy with e | e
      · omega
      · rcases List.mem_cons.mp e with e | e
        · omega
        · exact h2 y (List.mem_cons_of_mem _ e)
/-- the greatest of a list, or d -/
def mostI (d : Int) (l : List Int) : Int := match l with
  | [] => d
  | x :: xs => xs.foldl max x
def rMaxDef (K : PySem.W.Frag) : List V → List V → Hp → VK → Prop := fun vs zs H Q => ∃ (a : Addr) (ns : List Int) (d : Int), vs = [V.ref a] ∧ zs = [V.int d] ∧ SqL K H a (ns.map V.int) ∧ Q (.int (mostI d ns)) H
theorem cr_maxDef {X : Cx} (hc : X.calm = true) (hu : X.A.units + 64 < cLine) : CallRK X (.builtin "max") [Str.ofString "default"] (rMaxDef X.K) := by
  intro pins s σ H xs zs us ws Q I r rz h
  obtain ⟨a, ns, d, rfl, rfl, hs, q⟩ := h
  obtain ⟨its, rv, ht, hz⟩ := I.list hs
  rw [Vals.ref1 r]
  obtain ⟨wv, rfl, rb⟩ := rz.one
  obtain ⟨t, rfl⟩ := rb
  have hi := rv.ints
  have hd : PyData.depthAll (ns.map PyData.int) ≤ 1 := by
    have e : ∀ l : List Int, PyData.depthAll (l.map PyData.int) ≤ 1 := by
      intro l
      induction l with
      | nil => decide
      | cons n l ih =>
        show max (PyData.depth (.int n)) (PyData.depthAll (l.map PyData.int)) ≤ 1
        have h1 : PyData.depth (.int n) = 0 := rfl
        rw [h1]; omega
    exact e ns
  refine PySem.W.max_list_default (xs := ns.map PyData.int) (as := []) (I.ok.hd hc) ht.isList (by simpa using hi.reads s.heap) ⟨?_, ?_⟩ (by omega) ?_ ?_
  · intro x hx y hy
    obtain ⟨i, _, rfl⟩ := List.mem_map.mp hx
    obtain ⟨j, _, rfl⟩ := List.mem_map.mp hy
    rfl
  · intro x hx
    obtain ⟨i, _, rfl⟩ := List.mem_map.mp hx
    intro e; cases e
  · intro e h' tk hk
    have e2 : ns = [] := List.map_eq_nil_iff.mp e
    subst e2
    exact ⟨.int _, H, I.kept hk, ⟨_, rfl⟩, q⟩
  · intro y ys i v h' tk bs e hv hr hk
    match ns, e with
    | n :: ns, e =>
      obtain ⟨rfl, rfl⟩ := List.cons.inj e
      rw [PySem.W.maxD_ints] at hr
      cases hr
      exact ⟨.int _, H, I.kept hk, ⟨_, rfl⟩, q⟩
end KX

namespace KX
open PySem PySem.Spec PyProof.Rows L2
section
variable {prog : Program} {w : World} {A : Around} {E : Value → Shared → Prop} {s : Shared}
/-- sorted(d.items(), reverse=b), from the list that is made on -/
theorem sorted_itemsR {r d : Addr} {es : Array DictEntry} {ep : Nat} {b : Bool} {Q : Value → Shared → Prop} (hh : A.handled = none) (hv : s.heap.IsItemsView r d) (hr : DT.Raw s.heap d es ep) (hz : es.size ≤ sizeLine)
    (k : Heap → Value → Int × Int)
    (hk : ∀ (h' : Heap) (as : List Addr), DT.Made es s.heap.objs.size h' as → ∀ v ∈ as.map Value.ref, ∀ o, Srt.IsPair (h'.push o) v (k h' v).1 (k h' v).2)
    (h : ∀ (h' : Heap) (tk : Nat) (as : List Addr) (out : List Value), (∀ (b : Addr) (o : Obj), s.heap.get? b = some o → h'.get? b = some o) → s.heap.objs.size < h'.objs.size → as.length = es.size → DT.Made es s.heap.objs.size h' as →
      SrtO.Srtd (fun v u => SrtO.lexB (k h' v) (k h' u)) out → SrtO.Stb (fun v u => SrtO.lexB (k h' v) (k h' u)) out (if b = true then (as.map Value.ref).reverse else as.map Value.ref) →
      Q (.ref h'.objs.size) { heap := sortedHeap (h'.push (seqObj "list" (as.map Value.ref).toArray 0)) h'.objs.size (as.map Value.ref) (if b = true then out.toArray.reverse else out.toArray), gens := s.gens, drawn := s.drawn, toks := tk, os := s.os }) :
    wpAny (model prog w) A (call (.builtin "sorted") [.ref r] [(Str.ofString "reverse", .bool b)]) Q E s := by
  refine call_function_entry_kw kind_sorted plain_sorted entry_sorted (args_sorted_rev _ _) ?_
  unfold Builtin.«sorted»
  refine wpAny_bind (m := checkCount "sorted" 1 1 _) (wpAny_pure ?_)
  apply wpAny_bind
  refine DT.collectI (A := A.in1) hh hv hr hz fun h' tk as k1 k2 k3 M => ?_
  apply wpAny_bind
  have hz' : (as.map Value.ref).length ≤ sizeLine := by rw [List.length_map, k3]; exact hz
  refine wpAny_newList ?_ (hsz := hz')
  have ho : (h'.push (seqObj "list" (as.map Value.ref).toArray 0)).get? h'.objs.size = some (seqObj "list" (as.map Value.ref).toArray 0) := Heap.get?_push_size _ rfl
  apply wpAny_bind
  apply wpAny_holding
  refine wpAny_call_entry_kw slot_list_sort ⟨_, ho, rfl⟩ entry_list_sort ?_ (args_list_sort_rev _ _)
  refine SrtR.list_sort_ordR (SrtO.swo_lex (k h')) ho hz' (fun h2 => SrtO.pairs_sortableO (by omega) (fun v hv => hk h' as M v hv _) (fun o e => ?_)) fun out h1 h2 => ⟨_, rfl, ?_⟩
  · rw [show _ = some _ from ho] at e
    cases e
    show Value.type "list" ≠ Value.type "tuple"
    decide
  · exact wpAny_pure ⟨_, rfl, h h' tk as out k1 k2 k3 M h1 h2⟩
end
/-! d.items() of a dict with whole numbers; sorted of it -/
theorem mt_itemsK {X : Cx} : MtR X "dict.items" (fun x xs H Q => ∃ a kvs, x = V.ref a ∧ xs = [] ∧ H a = some (HO.dK kvs) ∧ ∀ (p : Addr), H p = none → Q (V.ref p) (upd H p (DX.itemsO p a))) := by
  intro pins s σ H x xs v us Q I rx rxs h
  obtain ⟨a, kvs, rfl, rfl, ha, q⟩ := h
  cases rx
  cases rxs
  obtain ⟨x1, low, vs, kv, o, es, ep, hg, hx, hd, hks, hp, nd⟩ := I.hok a _ ha
  refine DT.callItems low ⟨o, hg, hx, hd⟩ ?_
  refine ⟨.ref _, _, I.laid (t' := s.toks) (o := DX.itemsO s.heap.objs.size a) (fun b ob q => Heap.get?_push_of_some _ q) (Nat.le_refl _) (DX.itemsO_ok (Heap.get?_push_size _ rfl)), rfl, q _ (I.hok.fresh (Nat.le_refl _))⟩
/-- the pairs of numbers that stand at these values -/
def pairAt (h : Heap) (v : Value) : Int × Int := match v with
  | .ref a => match h.get? a with
    | some o => match o.data with
      | .seq its _ => match its[0]?, its[1]? with
        | some (Value.int i _), some (Value.int j _) => (i, j)
        | _, _ => (0, 0)
      | _ => (0, 0)
    | none => (0, 0)
  | _ => (0, 0)
theorem ents_of {P : Program} {w : World} : ∀ (ps : List (Int × Int)) (vs : List (Key × Value)) (es : List DictEntry), KV (ps.map fun q => ((Sum.inl q.1 : Key), V.int q.2)) vs → PySem.Pairs (mixKind P w) es vs →
    es.length = ps.length ∧ ∀ (j : Nat) (e : DictEntry), es[j]? = some e → ∃ q t u, ps[j]? = some q ∧ e.key = Value.int q.1 t ∧ e.val = Value.int q.2 u
  | [], _, _, .nil, .nil => ⟨rfl, fun j e h => by simp at h⟩
  | q :: ps, (k, v) :: vs, e :: es, .cons hq tl, .cons h1 h2 h3 => by
    obtain ⟨l, r⟩ := ents_of ps vs es tl h3
    refine ⟨by simp [l], fun j e' h => ?_⟩
    cases j with
    | zero =>
      have e2 : e = e' := by simpa using h
      subst e2
      obtain ⟨hk, t, hv⟩ := hq
      change Sum.inl q.1 = k at hk
      subst hk
      change Value.isInt q.1 e.key = true at h1
      refine ⟨q, ?_⟩
      cases hek : e.key with
      | int i tk =>
        rw [hek] at h1
        have : i = q.1 := by simpa [Value.isInt] using h1
        exact ⟨tk, t, rfl, by rw [this], by rw [h2]; exact hv⟩
      | _ => rw [hek] at h1; cases h1
    | succ j => exact r j e' (by simpa using h)
def rSortItR (b : Bool) : List V → List V → Hp → VK → Prop := fun vs zs H Q => ∃ (p a : Addr) (ps : List (Int × Int)), vs = [V.ref p] ∧ zs = [V.bl b] ∧ H p = some (DX.itemsO p a) ∧ H a = some (.dK (ps.map fun q => (Sum.inl q.1, V.int q.2))) ∧
  ∀ (H' : Hp) (l : Addr) (ts : List Addr) (qs : List (Int × Int)), Same H H' → H l = none → H' l = some (.lst (ts.map V.ref)) → qs.Perm ps → Paired (fun t q => H t = none ∧ H' t = some (.tup [.int q.1, .int q.2])) ts qs →
    (if b = true then qs.Pairwise (fun x y => SrtO.lexB x y = false) else qs.Pairwise (fun x y => SrtO.lexB y x = false)) → Q (.ref l) H'
theorem cr_sortedItR {X : Cx} (hc : X.calm = true) {b : Bool} : CallRK X (.builtin "sorted") [Str.ofString "reverse"] (rSortItR b) := by
  intro pins s σ H xs zs us ws Q I r rz h
  obtain ⟨p, a, ps, rfl, rfl, hp, ha, q⟩ := h
  rw [Vals.ref1 r]
  obtain ⟨wv, rfl, rb⟩ := rz.one
  cases rb
  obtain ⟨x1, low, vs, kv, o, es, ep, hg, hx, hd, hks, hpr, nd⟩ := I.hok a _ ha
  have hv : s.heap.IsItemsView p a := by
    have z := I.hok p _ hp
    first | exact z | exact z.2 | exact z.1
  obtain ⟨hl, hent0⟩ := ents_of ps vs es.toList kv hpr
  have hen : es.size ≤ sizeLine := by
    rw [List.length_map] at x1
    have : es.toList.length = es.size := Array.length_toList
    omega
  have hent : ∀ j : Nat, ∀ e, es[j]? = some e → ∃ q t u, ps[j]? = some q ∧ e.key = .int q.1 t ∧ e.val = .int q.2 u := fun j e he => hent0 j e (by rw [Array.getElem?_toList]; exact he)
  refine sorted_itemsR (A := X.A) (I.ok.hd hc) hv ⟨o, hg, hx, hd⟩ hen pairAt (fun h' as M v hv o => ?_) fun h' tk as out k1 k2 k3 M s1 s2 => ?_
  · obtain ⟨t, ht, rfl⟩ := List.mem_map.mp hv
    obtain ⟨j, hj, e⟩ := List.getElem_of_mem ht
    obtain ⟨e, he, hh⟩ := M.pairs j t (by rw [List.getElem?_eq_getElem hj, e])
    obtain ⟨q, t1, t2, hq, e1, e2⟩ := hent j e he
    rw [e1, e2] at hh
    refine ⟨t, _, t1, t2, 0, rfl, Heap.get?_push_of_some _ hh, rfl, ?_⟩
    have : pairAt h' (.ref t) = q := by
      simp only [pairAt, hh]
      rfl
    rw [this]
  · have hpa : ∀ (j : Nat) (t : Addr), as[j]? = some t → ∃ q t1 t2, ps[j]? = some q ∧ pairAt h' (.ref t) = q ∧ h'.get? t = some { cls := .type "tuple", data := .seq #[.int q.1 t1, .int q.2 t2] } := by
      intro j t e
      obtain ⟨e, he, hh⟩ := M.pairs j t e
      obtain ⟨q, t1, t2, hq, e1, e2⟩ := hent j e he
      rw [e1, e2] at hh
      exact ⟨q, t1, t2, hq, by simp only [pairAt, hh]; rfl, hh⟩
    have hps : as.map (fun t => pairAt h' (.ref t)) = ps := by
      have l2 : as.length = ps.length := by rw [k3, ← hl]; simp
      refine List.ext_getElem (by simpa using l2) fun j h1 h2 => ?_
      have h1' : j < as.length := by simpa using h1
      obtain ⟨q, t1, t2, hq, e, _⟩ := hpa j as[j] (List.getElem?_eq_getElem h1')
      rw [List.getElem?_eq_getElem h2] at hq
      rw [List.getElem_map, e]
      exact (Option.some.inj hq).symm
    let fin : List Value := if b = true then out.reverse else out
    have hfin : (if b = true then out.toArray.reverse else out.toArray) = fin.toArray := by
      show _ = (if b = true then out.reverse else out).toArray
      cases b <;> simp
    have hperm : fin.Perm (as.map Value.ref) := by
      show (if b = true then out.reverse else out).Perm _
      have hp := s2.perm
      cases b
      · simpa using hp
      · simp only [if_true] at hp ⊢
        exact (List.reverse_perm out).trans (hp.trans (List.reverse_perm _))
    let ts : List Addr := fin.map fun v => match v with | .ref a => a | _ => 0
    have hts : ts.map Value.ref = fin := by
      show (fin.map _).map _ = fin
      rw [List.map_map]
      refine (List.map_congr_left fun v hv => ?_).trans (List.map_id fin)
      obtain ⟨t, _, rfl⟩ := List.mem_map.mp (hperm.mem_iff.mp hv)
      rfl
    have hpt : ts.Perm as := by
      have := hperm.map (fun v => match v with | Value.ref a => a | _ => (0 : Addr))
      rw [List.map_map] at this
      have e : (as.map ((fun v => match v with | Value.ref a => a | _ => (0 : Addr)) ∘ Value.ref)) = as := (List.map_congr_left fun v hv => rfl).trans (List.map_id as)
      rw [e] at this
      exact this
    let qs := ts.map fun t => pairAt h' (.ref t)
    have hqp : qs.Perm ps := by rw [← hps]; exact hpt.map _
    have hord : if b = true then qs.Pairwise (fun x y => SrtO.lexB x y = false) else qs.Pairwise (fun x y => SrtO.lexB y x = false) := by
      have e : qs = fin.map (pairAt h') := by
        have e0 : fin.map (pairAt h') = (ts.map Value.ref).map (pairAt h') := by rw [hts]
        rw [e0, List.map_map]; rfl
      rw [e]
      show if b = true then ((if b = true then out.reverse else out).map (pairAt h')).Pairwise _ else ((if b = true then out.reverse else out).map (pairAt h')).Pairwise _
      cases b
      · simp only [Bool.false_eq_true, if_false]
        exact List.pairwise_map.mpr s1
      · simp only [if_true]
        exact List.pairwise_map.mpr (List.pairwise_reverse.mpr s1)
    rw [hfin]
    have hnew : (h'.push (seqObj "list" (as.map Value.ref).toArray 0)).get? h'.objs.size = some (seqObj "list" (as.map Value.ref).toArray 0) := Heap.get?_push_size _ rfl
    obtain ⟨ep2, hat⟩ := sortedHeap_at (out := fin.toArray) hnew
    have hold : ∀ (b : Addr) (o : Obj), h'.get? b = some o → (sortedHeap (h'.push (seqObj "list" (as.map Value.ref).toArray 0)) h'.objs.size (as.map Value.ref) fin.toArray).get? b = some o := fun b o e => by
      have lt : b < h'.objs.size := by
        rcases Nat.lt_or_ge b h'.objs.size with c | c
        · exact c
        · have e3 : h'.objs[b]? = none := Array.getElem?_eq_none c
          unfold Heap.get? at e
          rw [e3] at e
          cases e
      rw [sortedHeap_old (Nat.ne_of_lt lt) (by show b < (h'.objs.push _).size; rw [Array.size_push]; exact Nat.lt_succ_of_lt lt)]
      exact Heap.get?_push_of_some _ e
    have lts : ts.length = as.length := hpt.length_eq
    have I5 := I.laid (t' := tk) (a := h'.objs.size) (o := .lst (ts.map V.ref)) (fun b o e => hold b o (k1 b o e)) (Nat.le_of_lt k2) ⟨by rw [List.length_map, lts, k3]; exact hen, fin, ep2, by rw [← hts]; exact LiI.vals_refs ts, hat⟩
    have nf : H h'.objs.size = none := I.hok.fresh (Nat.le_of_lt k2)
    obtain ⟨H2, I6, e6, t6⟩ := DX.takeT (P := fun t vs => vs = [V.int (pairAt h' (.ref t)).1, V.int (pairAt h' (.ref t)).2]) I as _ I5 (M.rise.imp fun h => Nat.ne_of_lt h) (fun t ht => by
      obtain ⟨j, hj, e⟩ := List.getElem_of_mem ht
      obtain ⟨q, t1, t2, hq, e1, hh⟩ := hpa j t (by rw [List.getElem?_eq_getElem hj, e])
      have lo := M.above t ht
      have hi : t < h'.objs.size := M.there ht
      refine ⟨Nat.le_of_lt lo, by rw [upd_ne (Nat.ne_of_lt hi)]; exact I.hok.fresh (Nat.le_of_lt lo), _, rfl, fun H2 => ?_⟩
      rw [e1]
      exact ⟨by show 2 ≤ _; decide +kernel, _, .cons ⟨t1, rfl⟩ (.cons ⟨t2, rfl⟩ .nil), ⟨_, hold _ _ hh, rfl, 0, rfl⟩⟩)
    refine ⟨.ref _, H2, I6, rfl, q H2 _ ts qs (fun b o e => e6 b o (Same.fresh nf b o e)) nf (e6 _ _ upd_same) hqp ?_ hord⟩
    have hall : ∀ l : List Addr, (∀ t ∈ l, t ∈ as) → Paired (fun t q => H t = none ∧ H2 t = some (.tup [.int q.1, .int q.2])) l (l.map fun t => pairAt h' (.ref t)) := by
      intro l
      induction l with
      | nil => exact fun _ => .nil
      | cons t l ih =>
        intro hm
        have ht := hm t (List.mem_cons_self ..)
        obtain ⟨vs, ev, e⟩ := t6 t ht
        subst ev
        exact .cons ⟨I.hok.fresh (Nat.le_of_lt (M.above t ht)), e⟩ (ih fun t ht => hm t (List.mem_cons_of_mem _ ht))
    exact hall ts fun t ht => hpt.mem_iff.mp ht
/-! with K named -/
theorem cr_sortedRevTK {X : Cx} {K : PySem.W.Frag} {b : Bool} (hK : X.K = K := by rfl) : CallRK X (.builtin "sorted") [Str.ofString "reverse"] (rSortRevT K b) := by subst hK; exact cr_sortedRevT
theorem cr_maxDefK {X : Cx} {K : PySem.W.Frag} (hc : X.calm = true) (hu : X.A.units + 64 < cLine) (hK : X.K = K := by rfl) : CallRK X (.builtin "max") [Str.ofString "default"] (rMaxDef K) := by subst hK; exact cr_maxDef hc hu
theorem get_listK {X : Cx} {K : PySem.W.Frag} (hK : X.K = K := by rfl) : PGet X (rGetL K) := by subst hK; exact get_list
end KX

namespace KX
open PySem PySem.Spec PyProof.Rows L2
/-! ### sum of a tuple of whole numbers -/
def rSumT (K : PySem.W.Frag) : List V → Hp → VK → Prop := fun vs H Q => ∃ (a : Addr) (ns : List Int), vs = [V.ref a] ∧ SqT K H a (ns.map V.int) ∧ Q (.int ns.sum) H
theorem cr_sumT {X : Cx} (hc : X.calm = true) : CallR X (.builtin "sum") (rSumT X.K) := by
  intro pins s σ H vs us Q I r h
  obtain ⟨a, ns, rfl, hs, q⟩ := h
  obtain ⟨its, rv, ht, _⟩ := I.tuple hs
  rw [Vals.ref1 r]
  have hi := rv.ints
  obtain ⟨o, ho, hc', n, hd⟩ := ht
  have hl : s.heap.IsTuple a its.toArray := ⟨o, ho, hc', n, hd⟩
  obtain ⟨xs, hx⟩ := hi.allInts.items
  have hn : PySem.numsOf its.toArray.toList = ns := by rw [show its.toArray.toList = its from rfl, hi.numsOf]
  rw [hx] at hl hn
  rw [nums_intItems] at hn
  refine PySem.W.ktm_sumG (I.ok.hd hc) hl fun h' tk t' hk => ?_
  rw [preSum_eq, List.take_of_length_le (by simp), hn]
  exact ⟨.int _, H, I.kept hk, ⟨_, rfl⟩, q⟩
theorem cr_sumTK {X : Cx} {K : PySem.W.Frag} (hc : X.calm = true) (hK : X.K = K := by rfl) : CallR X (.builtin "sum") (rSumT K) := by subst hK; exact cr_sumT hc
theorem rd_sumT {K : PySem.W.Frag} {H : Hp} {Q : VK} {p : Addr} {ns : List Int} (ha : Tup H p (ns.map V.int)) (h : Q (.int ns.sum) H) : rSumT K [.ref p] H Q := ⟨p, ns, rfl, ha.sq, h⟩
/-! ### tuples whose objects are known -/
theorem pe_tupleFK {X : Cx} {K : PySem.W.Frag} {a : Expr} {ta : TE} {p pos : Pos} (hg : Gl X "tuple") (hm : X.mg "tuple" = none) (ha : PE X a ta)
    (na : starEach [a] X.env = (false, eval a X.env) :: starEach [] X.env := by rfl) (hK : X.K = K := by rfl) :
    PE X (.Call (.Name "tuple" p) [a] [] pos) (tThen ta (kTupF K)) := by subst hK; exact pe_tupleF hg hm ha na
theorem rd_tupF {K : PySem.W.Frag} {H : Hp} {Q : VK} {p : Addr} {xs : List V} (ha : H p = some (.lst xs)) (h : ∀ H' q, Same H H' → H q = none → TupF H' q xs → Q (.ref q) H') : kTupF K (.ref p) H Q :=
  ⟨p, xs, rfl, SqL.of ha, fun q o n h1 h2 => h _ q (Same.fresh n) n ⟨o, upd_same, h1, h2⟩⟩
def tTupF (t : TA) : TE := fun σ H Q => t σ H fun xs H1 => xs.length ≤ sizeLine ∧ ∀ H' p, Same H1 H' → TupF H' p xs → Q (.ref p) H'
theorem pe_tupF {X : Cx} {es : List Expr} {t : TA} {pos : Pos} {x1} (h : PA X es t) : PE X (.Tuple es x1 pos) (tTupF t) := by
  refine ⟨fun pins s σ H Q I hq => ?_⟩
  refine wpAny_Tuple_spliced (thn (h.run pos pins s σ H _ I hq) fun us s1 ⟨xs, H1, I1, r, z, q⟩ => ⟨by rw [← r.length]; exact z, ?_⟩)
  have hf : H1 s1.heap.objs.size = none := I1.hok.fresh (Nat.le_refl _)
  refine ⟨.ref s1.heap.objs.size, upd H1 s1.heap.objs.size (.frz { cls := .type "tuple", data := .seq us.toArray } (.tup xs)), I1.laid (t' := s1.toks) (fun b u e => Heap.get?_push_of_some _ e) (Nat.le_refl _) ?_, rfl, q _ _ (Same.fresh hf) ⟨_, upd_same, rfl, rfl⟩⟩
  exact ⟨Heap.get?_push_size _ rfl, z, us, r, ⟨_, Heap.get?_push_size _ rfl, rfl, _, rfl⟩⟩
theorem rd_tupFd {t : TA} {σ : L2.St} {H : Hp} {Q : VK} (h : t σ H fun xs H1 => xs.length ≤ sizeLine ∧ ∀ H' p, Same H1 H' → TupF H' p xs → Q (.ref p) H') : tTupF t σ H Q := h
/-- (v,) * k of any small number, the object known -/
def rRepF : R2 := fun x y H Q => ∃ (l : Addr) (k : Nat) (v : V), x = .ref l ∧ y = .int k ∧ TupF H l [v] ∧ k ≤ 1000 ∧ ∀ H' a, Same H H' → TupF H' a (List.replicate k v) → Q (.ref a) H'
theorem op_repF {X : Cx} : OpR X (binaryOp .Mult) rRepF := by
  intro pins s σ H x y v u Q I rx ry h
  obtain ⟨l, k, w, e1, e2, hx, hk, hQ⟩ := h
  subst e1
  subst e2
  cases rx
  obtain ⟨t, rfl⟩ := ry
  obtain ⟨its, r, ht, hz⟩ := I.tuple hx.tup.sq
  have hl : its.length = 1 := r.length.symm
  obtain ⟨o, ho, hc, n, hd⟩ := ht
  obtain ⟨oc, od, oda, osl⟩ := o
  cases hc
  cases hd
  have ht : IsTup s.heap l its.toArray := ⟨_, ho, rfl, n, rfl⟩
  have hne : its.toArray.isEmpty = false := by
    cases its with
    | nil => simp at hl
    | cons a b => rfl
  by_cases c2 : 2 ≤ k
  · have hsz0 : its.toArray.size = 1 := by rw [List.size_toArray, hl]
    have flen : (List.replicate k its).flatten.length ≤ sizeLine := by
      rw [PyProof.Rows.lm_len_rep_flat, hl, sizeLine_eq]; omega
    have en : ((k : Nat) : Int).toNat = k := by omega
    have c0 : (decide (((k : Nat) : Int) < -(2 ^ 63)) || decide (((k : Nat) : Int) ≥ 2 ^ 63)) = false := by
      rw [decide_eq_false (by omega), decide_eq_false (by omega)] <;> rfl
    have c1 : (its.toArray.isEmpty || ((k : Nat) : Int) == 1) = false := by
      rw [hne, Bool.false_or]
      exact beq_eq_false_iff_ne.mpr (by omega)
    have c3 : (decide (((k : Nat) : Int) ≤ 0) || its.toArray.isEmpty) = false := by
      rw [hne, Bool.or_false]
      exact decide_eq_false (by omega)
    have c4 : Builtin.Tuple.tupleTooMany (((its.toArray.size : Nat) : Int) * ((k : Nat) : Int)) = false := by
      unfold Builtin.Tuple.tupleTooMany
      rw [sizeLine_eq, hsz0]
      exact decide_eq_false (by omega)
    refine wpAny_binaryOp_repeat_ref (T := "tuple") (U := "int") (by decide) ⟨_, ho, rfl⟩ (fun s' => typeIs_int s' _ t) noFill_tuple_mul F.fills_int_mul F.slot_int_rmul repeat_tuple F.slot_int_index.lookup
      (call_meets F.slot_int_rmul (typeIs_int s _ t) F.entry_int_rmul (F.args_int_rmul_2 _ _) (int_rmul_tuple _ t l its.toArray n od osl)
        ⟨ho, rfl, ⟨_, ho, rfl⟩, call_meets F.slot_tuple_mul ⟨_, ho, rfl⟩ F.entry_tuple_mul (F.args_tuple_mul_2 _ _) (tuple_mulW l its.toArray n od osl _ t c0 c1 c3 (by rw [hsz0]; omega) c4 (by rw [size_rep, List.size_toArray, en]; exact flen)) ⟨ho, ?_⟩⟩)
    rw [size_rep, en]
    have hf : H s.heap.objs.size = none := I.hok.fresh (Nat.le_refl _)
    refine ⟨.ref s.heap.objs.size, _, I.laid (t' := s.toks) (o := .frz { cls := .type "tuple", data := .seq (List.replicate k its).flatten.toArray } (.tup (List.replicate k [w]).flatten)) (fun b ob q => Heap.get?_push_of_some _ q) (Nat.le_refl _) ?_, rfl, hQ _ _ (Same.fresh hf) ⟨_, by rw [upd_same, flat_one], rfl, rfl⟩⟩
    exact ⟨Heap.get?_push_size _ rfl, by rw [flat_one, List.length_replicate, sizeLine_eq]; omega, _, r.rep k, IsTup.new _ _⟩
  · refine wpAny_binaryOp_repeat_ref (T := "tuple") (U := "int") (id := "tuple.__mul__") (idr := "int.__rmul__") (ix := .builtin "int.__index__") (by decide) ht.typeIs (fun s' => rfl) L2.noFill_tuple_mul (by with_unfolding_all rfl) F.slot_int_rmul L2.repeat_tuple (by with_unfolding_all rfl) ?_
    refine call_meets F.slot_int_rmul rfl F.entry_int_rmul (by with_unfolding_all rfl) (L2.int_rmul_tuple _ t l its.toArray n od osl) ⟨ho, rfl, ht.typeIs, ?_⟩
    refine wpAny_call_entry F.slot_tuple_mul ht.typeIs F.entry_tuple_mul ?_ (F.args_tuple_mul_2 _ _)
    have hk2 : k = 1 ∨ k = 0 := by omega
    rcases hk2 with rfl | rfl
    · show wpAny _ _ (asIndex (.int 1 t) >>= _) _ _ s
      refine wpAny_bind (m := asIndex (.int 1 t)) (wpAny_bind (wpAny_pure (wpAny_pure ?_)))
      show wpAny _ _ (Builtin.Tuple.tupleItemsOf (.ref l) >>= _) _ _ s
      refine wpAny_bind (tupleItemsOf_ ht ?_)
      show wpAny _ _ (if (its.toArray.isEmpty || (1 : Int) == 1) = true then _ else _) _ _ s
      rw [if_pos (by rw [hne]; decide)]
      refine wpAny_bind (m := Builtin.Tuple.tupleIsExact (.ref l)) (wpAny_bind (wpAny_typeOf ht.typeIs (wpAny_pure ?_)))
      rw [if_pos (by decide)]
      have fin := hQ H l (Same.refl H) hx
      first
        | exact wpAny_bind (wpAny_rule (wpAny_pure ⟨_, rfl, .ref l, H, I, rfl, fin⟩))
        | exact wpAny_bind (wpAny_pure (wpAny_pure ⟨_, rfl, .ref l, H, I, rfl, fin⟩))
        | exact wpAny_pure ⟨_, rfl, .ref l, H, I, rfl, fin⟩
    · show wpAny _ _ (asIndex (.int 0 t) >>= _) _ _ s
      refine wpAny_bind (m := asIndex (.int 0 t)) (wpAny_bind (wpAny_pure (wpAny_pure ?_)))
      show wpAny _ _ (Builtin.Tuple.tupleItemsOf (.ref l) >>= _) _ _ s
      refine wpAny_bind (tupleItemsOf_ ht ?_)
      show wpAny _ _ (if (its.toArray.isEmpty || (0 : Int) == 1) = true then _ else _) _ _ s
      rw [if_neg (by rw [hne]; decide)]
      show wpAny _ _ (if (decide ((0 : Int) ≤ 0) || its.toArray.isEmpty) = true then _ else _) _ _ s
      rw [if_pos (by rw [hne]; decide)]
      have hf : H s.heap.objs.size = none := I.hok.fresh (Nat.le_refl _)
      have I5 : Inv X pins σ (upd H s.heap.objs.size (.frz { cls := .type "tuple", data := .seq #[] } (.tup []))) { s with heap := s.heap.push { cls := .type "tuple", data := .seq #[] } } :=
        I.laid (t' := s.toks) (o := .frz { cls := .type "tuple", data := .seq #[] } (.tup [])) (fun b ob q => Heap.get?_push_of_some _ q) (Nat.le_refl _) ⟨Heap.get?_push_size _ rfl, by decide +kernel, _, .nil, IsTup.new _ _⟩
      refine wpAny_bind (m := Builtin.Tuple.tupleExact _) (wpAny_newObj_type ?_ (by show (0 : Nat) ≤ _; exact Nat.zero_le _))
      refine wpAny_pure ⟨_, rfl, .ref _, _, I5, rfl, hQ _ _ (Same.fresh hf) ⟨_, upd_same, rfl, rfl⟩⟩
/-! ### methods of a tuple whose object is known, of a dict of whole numbers -/
theorem mt_tcountK {X : Cx} {K : PySem.W.Frag} (hK : X.K = K := by rfl) : MtR X "tuple.count" (rCntT K) := by subst hK; exact mt_tcount
theorem rd_bmF {r : V → List V → Hp → VK → Prop} {to : TE} {t : TA} {σ : L2.St} {H : Hp} {Q : VK} (h : to σ H fun x H1 => (∃ a xs, x = .ref a ∧ TupF H1 a xs) ∧ t σ H1 fun ys H2 => r x ys H2 Q) : tBMF r to t σ H Q := h
theorem pe_bm0T {X : Cx} {K : PySem.W.Frag} {T id : String} {name : Str} {r : V → List V → Hp → VK → Prop} {o : Expr} {to : TE} {apos cpos : Pos} (pa : PlainAttrs T) (slot : Slot T name id) (hty : typeOf (.builtin id) = pure (.type "method_descriptor")) (hm : MtR X id r) (ho : PE X o to)
    (hbase : attributeBase o name X.env (eval o X.env) = eval o X.env := by rfl) (hline : (apos.endLine == cpos.line) = true := by rfl) (hK : X.K = K := by rfl) : PE X (.Call (.Attribute o name apos) [] [] cpos) (tBM0 K T r to) := by
  subst hK; exact pe_bm0 pa slot hty hm ho hbase hline
theorem rd_tyD {K : PySem.W.Frag} {p : Addr} {H : Hp} {kvs : List (Key × V)} {R : Prop} (ha : H p = some (.dK kvs)) (h : R) : tyV K "dict" (.ref p) H ∧ R := ⟨.inr (.inr (.inl ⟨rfl, .inl ⟨kvs, ha⟩⟩)), h⟩
end KX

namespace KX
open PySem PySem.Spec PyProof.Rows L2
/-! ### a try with several clauses, each with a name or without -/
/-- caught: what is known while the clauses are asked one by one -/
structure Caught (X : Cx) (pins : List (Addr × Obj)) (σ : L2.St) (H : Hp) (cls : Value) (d : Option Addr) (a : Addr) (B : Heap) (sI s : Shared) : Prop where
  inv : Inv X pins σ H sI
  nb : ∀ b o, sI.heap.get? b = some o → b ∉ frs X.stack → B.get? b = some o
  up : sI.heap.UpToSlots s.heap
  fly : HandSPX.FlyingZ B (X.env :: X.outer) a (Zc cls d) s.heap
  free : H a = none
  os : s.os = sI.os
  bare : AllBare s.gens
theorem Caught.again {X : Cx} {pins : List (Addr × Obj)} {σ : L2.St} {H : Hp} {cls : Value} {d : Option Addr} {a : Addr} {B h' : Heap} {sI s : Shared} (c : Caught X pins σ H cls d a B sI s)
    (f : HandSPX.FlyingZ B (X.env :: X.outer) a (Zc cls d) h') (u : s.heap.UpToSlots h') : Caught X pins σ H cls d a B sI { s with heap := h' } :=
  ⟨c.inv, c.nb, c.up.trans u, f, c.free, c.os, c.bare⟩
theorem Caught.held {X : Cx} {pins : List (Addr × Obj)} {σ : L2.St} {H : Hp} {cls : Value} {d : Option Addr} {a : Addr} {B : Heap} {sI s : Shared} (c : Caught X pins σ H cls d a B sI s) (hf : X.env.frame = some X.env.locals) :
    ∃ oe, s.heap.get? a = some oe ∧ Zc cls d oe ∧ (∃ vs, oe.data = .fields vs) ∧ Inv (X.suite a ((a, oe) :: (X.pn ++ pins))) [] σ H s := by
  obtain ⟨oe, vs, e1, e2, e3⟩ := c.fly.there
  have out : a ∉ frs (X.env :: X.outer) := by
    intro m
    obtain ⟨_, o, e4, nf⟩ := c.fly.2.2.1.mem m
    rw [e1] at e4
    exact nf _ (by rw [← Option.some.inj e4]; exact e3)
  have n1 : a ≠ X.env.locals := by
    intro z
    refine out (List.mem_filterMap.mpr ⟨X.env, List.mem_cons_self, ?_⟩)
    rw [hf, z]
  have n2 : a ∉ X.fs := by
    intro m
    obtain ⟨e, he, q⟩ := List.mem_filterMap.mp m
    exact out (List.mem_filterMap.mpr ⟨e, List.mem_cons_of_mem _ he, q⟩)
  exact ⟨oe, e1, e2, ⟨vs, e3⟩, (c.inv.landed c.nb c.fly.1 c.up c.os c.bare).suite e1 e3 c.free n1 n2⟩
/-- the clauses, asked one by one, bring about what W wishes -/
def Hears (X : Cx) (hds : List ExceptHandler) (W : Ends → WX) : Prop :=
  ∀ (pins : List (Addr × Obj)) (σ : L2.St) (H : Hp) (cls : Value) (d : Option Addr) (a : Addr) (B : Heap) (sI s : Shared) (D : Ends), Caught X pins σ H cls d a B sI s → W D cls d σ H →
    wpAny (model X.prog X.w) X.A (handleBy (.ref a) X.env hds) (SP X pins D) X.xe s
theorem hears_nil {X : Cx} {Wout : WX} (hs : X.stack = X.env :: X.outer) (hf : X.env.frame = some X.env.locals) (tk : Takes X Wout) : Hears X [] fun _ => Wout := by
  intro pins σ H cls d a B sI s D c w
  refine wpAny_handleBy_nil ?_
  obtain ⟨_, _, _, oe, vs, T, oT, ts', he, hz, hd, h1, hr⟩ := id c.fly
  unfold PySem.passOn
  refine wpAny_bind (wpAny_field he hd h1 ?_)
  have ne : ¬ ((Value.ref T == Value.none) = true) := by simp
  rw [if_neg ne]
  have on : wpAny (model X.prog X.w) X.A (setFlight (.ref a) X.env.frame) (fun _ s' => wpAny (model X.prog X.w) X.A (throw (.ref a) : Sem Flow) (SP X pins D) X.xe s') X.xe s := by
    rw [hf]
    refine HandSPX.setFlight_upZ c.fly fun h' hh up => wpAny_throw (tk _ _ ?_)
    refine ⟨a, B, sI, pins, σ, H, cls, d, rfl, c.inv, c.nb, c.up.trans up, ?_, c.free, c.os, c.bare, w⟩
    rw [hs]
    exact .inr (.inr hh)
  first
    | exact wpAny_bind (wpAny_pure (wpAny_bind on))
    | exact wpAny_bind on
/-- which class a clause names -/
theorem clause_asked {X : Cx} {x : Str} {np : Pos} {c : Value} {a : Addr} {q : Addr × Obj} {l : List (Addr × Obj)} {σ : L2.St} {H : Hp} {s : Shared} {Q : Value → Shared → Prop} {E : Value → Shared → Prop} (hc : Names X x c) (S : Inv (X.suite a (q :: l)) [] σ H s) (h : Q c s) :
    wpAny (model X.prog X.w) (X.A.mark (some (.ref a))) (eval (.Name x np) X.env) Q E s := by
  obtain ⟨g, db, m | ⟨m, v, nn⟩⟩ := hc
  · exact ld_glob (X := X.suite a (q :: l)) S g m h db
  · exact ld_blt (X := X.suite a (q :: l)) S g m v h nn db
/-- what 'except x as n' wishes: n's slot is i; behind it come W's -/
def wNamed (K : PySem.W.Frag) (c : Value) (i : Nat) (ts : Addr → Value → Option Addr → TS) (W : Ends → WX) : Ends → WX := fun D cls d σ H =>
  ∃ b, PySem.W.exmOne K cls c = some b ∧
    (b = true → ∀ a, H a = none → ts a cls d ⟨fun σ' => D.nx (σ'.set i none), D.rt, fun σ' => D.bk (σ'.set i none), fun σ' => D.ct (σ'.set i none)⟩ (σ.set i (some (.ref a))) H) ∧ (b = false → W D cls d σ H)
/-- what 'except x' wishes -/
def wPlain (K : PySem.W.Frag) (c : Value) (ts : Addr → Value → Option Addr → TS) (W : Ends → WX) : Ends → WX := fun D cls d σ H =>
  ∃ b, PySem.W.exmOne K cls c = some b ∧ (b = true → ∀ a, H a = none → ts a cls d D σ H) ∧ (b = false → W D cls d σ H)
section
variable {X : Cx} {x n : Str} {c : Value} {i : Nat} {suite : List Stmt} {b₀ : Stmt} {np pos' : Pos} {ts : Addr → Value → Option Addr → TS} {W : Ends → WX} {hds : List ExceptHandler}
theorem hears_named (hf : X.env.frame = some X.env.locals) (hN : X.N.Nodup) (hi : X.N[i]? = some n) (hln : X.env.kindOf n = some .local) (hc : Names X x c)
    (hsu : ∀ (a : Addr) (oe : Obj) (cls : Value) (d : Option Addr) (pn : List (Addr × Obj)), Zc cls d oe → (∃ vs, oe.data = .fields vs) → PSs (X.suite a ((a, oe) :: pn)) (b₀ :: suite) (ts a cls d)) (r : Hears X hds W) :
    Hears X (.ExceptHandler (some (.Name x np)) (some n) (b₀ :: suite) pos' :: hds) (wNamed X.K c i ts W) := by
  intro pins σ H cls d a B sI s D C w
  obtain ⟨b, e, yes, no⟩ := w
  obtain ⟨oe, g, z, dd, S⟩ := C.held hf
  refine wpAny_handleBy_cons (codeAny_handlers_test (clause_asked hc S ?_)) (by intro y; cases y)
  have ty : PySem.W.Looks (model X.prog X.w) s.heap (typeOf (.ref a)) cls := fun A Q E s' k y => wpAny_typeOf_ref (k _ _ g) (by rw [z.1]; exact y)
  refine (PySem.W.exm_one (M := model X.prog X.w) S.kIn ty e).here ?_
  cases b with
  | false => exact r pins σ H cls d a B sI s D C (no rfl)
  | true =>
    refine codeAny_handlers_suite_as (HandSPX.lands_againZ C.fly fun h' f u => ?_)
    obtain ⟨oe', g', z', dd', S'⟩ := (C.again f u).held hf
    refine store_ok (X := X.suite a ((a, oe') :: (X.pn ++ pins))) (v := .ref a) S' hN hi (.inl hln) rfl (fun s5 S5 => ?_) (.inr hln)
    refine wpAny_mono ((hsu a oe' cls d (X.pn ++ pins) z' dd').run [] s5 _ H _ S5 (yes rfl a C.free)) (fun f s6 out => ?_) (fun _ _ y => y.elim)
    have bye : ∀ {τ : L2.St} {G : Hp} {R : Shared → Prop}, Inv (X.suite a ((a, oe') :: (X.pn ++ pins))) [] τ G s6 → (∀ s7, Inv X pins (τ.set i none) G s7 → R s7) →
        wpAny (model X.prog X.w) X.A (do bindName X.env n .none; unbindBehindTheSuite X.env n pos') (fun _ => R) X.xe s6 := fun J k => gone_ok (J.unsuite C.inv.ok) hN hi hln k
    match f, out with
    | .next, ⟨_, _, J, q⟩ => exact bye J fun _ J7 => ⟨_, _, J7, q⟩
    | .brk, ⟨_, _, J, q⟩ => exact bye J fun _ J7 => ⟨_, _, J7, q⟩
    | .cont, ⟨_, _, J, q⟩ => exact bye J fun _ J7 => ⟨_, _, J7, q⟩
    | .ret _, ⟨_, _, _, J, r6, q⟩ => exact bye J fun _ J7 => ⟨_, _, _, J7, r6, q⟩
theorem hears_plain (hf : X.env.frame = some X.env.locals) (hc : Names X x c)
    (hsu : ∀ (a : Addr) (oe : Obj) (cls : Value) (d : Option Addr) (pn : List (Addr × Obj)), Zc cls d oe → (∃ vs, oe.data = .fields vs) → PSs (X.suite a ((a, oe) :: pn)) (b₀ :: suite) (ts a cls d)) (r : Hears X hds W) :
    Hears X (.ExceptHandler (some (.Name x np)) none (b₀ :: suite) pos' :: hds) (wPlain X.K c ts W) := by
  intro pins σ H cls d a B sI s D C w
  obtain ⟨b, e, yes, no⟩ := w
  obtain ⟨oe, g, z, dd, S⟩ := C.held hf
  refine wpAny_handleBy_cons (codeAny_handlers_test (clause_asked hc S ?_)) (by intro y; cases y)
  have ty : PySem.W.Looks (model X.prog X.w) s.heap (typeOf (.ref a)) cls := fun A Q E s' k y => wpAny_typeOf_ref (k _ _ g) (by rw [z.1]; exact y)
  refine (PySem.W.exm_one (M := model X.prog X.w) S.kIn ty e).here ?_
  cases b with
  | false => exact r pins σ H cls d a B sI s D C (no rfl)
  | true =>
    refine codeAny_handlers_suite (HandSPX.lands_againZ C.fly fun h' f u => ?_)
    obtain ⟨oe', g', z', dd', S'⟩ := (C.again f u).held hf
    refine wpAny_mono ((hsu a oe' cls d (X.pn ++ pins) z' dd').run [] _ _ H _ S' (yes rfl a C.free)) (fun f s6 out => ?_) (fun _ _ y => y.elim)
    match f, out with
    | .next, ⟨_, _, J, q⟩ => exact ⟨_, _, J.unsuite C.inv.ok, q⟩
    | .brk, ⟨_, _, J, q⟩ => exact ⟨_, _, J.unsuite C.inv.ok, q⟩
    | .cont, ⟨_, _, J, q⟩ => exact ⟨_, _, J.unsuite C.inv.ok, q⟩
    | .ret _, ⟨_, _, _, J, r6, q⟩ => exact ⟨_, _, _, J.unsuite C.inv.ok, r6, q⟩
theorem ps_try_hears {body : List Stmt} {h₀ : ExceptHandler} {pos : Pos} {tb : WX → TS} (hs : X.stack = X.env :: X.outer) (hf : X.env.frame = some X.env.locals)
    (hb : ∀ (W' : WX) (pn : List (Addr × Obj)) (xe : Value → Shared → Prop), Takes (X.tr pn xe) W' → PassesOwn (model X.prog X.w) X.A X.env xe → PSs (X.tr pn xe) body (tb W'))
    (hh : Hears X (h₀ :: hds) W) : PS X (.Try body (h₀ :: hds) [] [] pos) (fun D σ H => tb (W D) D σ H) := by
  constructor
  intro pins s σ H D I h
  let xe : Value → Shared → Prop := fun e s₁ => wpAny (model X.prog X.w) X.A (noteFrame e X.env) (fun _ s₂ => wpAny (model X.prog X.w) X.A (setFlight e none)
    (fun _ s₃ => wpAny (model X.prog X.w) X.A (handleBy e X.env (h₀ :: hds)) (SP X pins D) X.xe s₃) X.xe s₂) X.xe s₁
  have fr : X.A.frames = some (X.env :: X.outer) := by rw [I.ok.frames, hs]
  have caught : Takes (X.tr (X.pn ++ pins) xe) (W D) := by
    intro u s' air
    obtain ⟨a, B, sI, pn', σ', H', cls, d, rfl, J, nb, up, sky, na, os, ag, w⟩ := air
    have sky : Sky B X.stack a (Zc cls d) X.env.locals s'.heap := sky
    rw [hs] at sky
    refine Sky.land Zc.steady fr hf sky fun h3 fl up3 => ?_
    exact hh pins σ' H' cls d a B sI { s' with heap := h3 } D ⟨J.ofTry I.ok, nb, up.trans up3, fl, na, os, ag⟩ w
  refine wpAny_Try_except (wpAny_mono ((hb (W D) (X.pn ++ pins) xe caught PassesOwn.looking).run [] s σ H D (I.toTry _) h) (fun f s1 out => ?_) (fun e s1 he => he))
  match f, out with
  | .next, ⟨_, _, J, q⟩ => exact wpAny_execs_nil ⟨_, _, J.ofTry I.ok, q⟩
  | .brk, ⟨_, _, J, q⟩ => exact ⟨_, _, J.ofTry I.ok, q⟩
  | .cont, ⟨_, _, J, q⟩ => exact ⟨_, _, J.ofTry I.ok, q⟩
  | .ret _, ⟨_, _, _, J, r, q⟩ => exact ⟨_, _, _, J.ofTry I.ok, r, q⟩
end
end KX

namespace KX
open PySem PySem.Spec PyProof.Rows L2 RZ
/-! ### zip of a tuple and a list -/
/-- the tuple at a and the list at b as they stand at each turn, the items in new pairs -/
def ItzM (K : PySem.W.Frag) (a b : Addr) : It where
  go i H := ∃ (xs ys : List V) (x y : V), SqT K H a xs ∧ SqL K H b ys ∧ xs[i]? = some x ∧ ys[i]? = some y
  yld i H v H' := ∃ T x y, v = .ref T ∧ H T = none ∧ H' = upd H T (.tup [x, y]) ∧ (∀ xs, SqT K H a xs → xs[i]? = some x) ∧ ∀ ys, SqL K H b ys → ys[i]? = some y
  stop i H := ∃ xs ys : List V, SqT K H a xs ∧ SqL K H b ys ∧ i ≤ xs.length ∧ i ≤ ys.length ∧ (i = xs.length ∨ i = ys.length)
/-- the five cells of such a zip, the object sizes told from n on -/
def zipCells (n : Nat) : List Addr := [n + 4, n + 2, n + 3, n, n + 1]
def ZipM (n a b i : Nat) (h : Heap) : Prop := IsZip h (n + 4) (n + 2) (n + 3) .none ∧ IsPair h (n + 2) (.ref n) (.ref (n + 1)) ∧ (∃ x y, IsPair h (n + 3) x y) ∧ h.IsTupleIter n a i ∧ h.IsListIter (n + 1) b i
theorem mem_cells {n c : Nat} : c ∈ zipCells n ↔ c = n + 4 ∨ c = n + 2 ∨ c = n + 3 ∨ c = n ∨ c = n + 1 := by
  unfold zipCells
  simp
theorem sepM {n a b : Nat} (ha : a < n) (hb : b < n) : ZipSep2 (n + 4) (n + 2) (n + 3) n (n + 1) [n, a] [n + 1, b] := by
  have nm : ∀ {x y z : Nat}, x ≠ y → x ≠ z → x ∉ [y, z] := fun h1 h2 m => by
    simp at m
    omega
  exact ⟨show n + 2 ≠ n + 4 by omega, show n + 3 ≠ n + 4 by omega, show n + 2 ≠ n + 3 by omega, show n + 2 ≠ n by omega, by simp, nm (by omega) (by omega), nm (by omega) (by omega),
    show n + 2 ≠ n + 1 by omega, by simp, nm (by omega) (by omega), nm (by omega) (by omega), nm (by omega) (by omega), nm (by omega) (by omega)⟩
theorem turn_zipM {P : Program} {w : World} {K : PySem.W.Frag} {elts : List Expr} {kk : Nat} {tpos : Pos} {a b : Addr} {n : Nat} (ha : a < n) (hb : b < n) :
    Turn P w K (.Tuple elts kk tpos) (ItzM K a b) (zipCells n) (n + 4 : Nat) (ZipM n a b) where
  mem := mem_cells.mpr (.inl rfl)
  obj i h st c hc := by
    obtain ⟨z1, z2, ⟨x, y, z3⟩, ⟨o1, e1, _, d1⟩, ⟨o2, e2, _, d2⟩⟩ := st
    rcases mem_cells.mp hc with rfl | rfl | rfl | rfl | rfl
    · exact ⟨_, z1, fun v q => nomatch q⟩
    · exact ⟨_, z2, fun v q => nomatch q⟩
    · exact ⟨_, z3, fun v q => nomatch q⟩
    · exact ⟨o1, e1, fun v q => by rw [d1] at q; cases q⟩
    · exact ⟨o2, e2, fun v q => by rw [d2] at q; cases q⟩
  keep i h h' st k := by
    have k' := fun c hc => k c (mem_cells.mpr hc)
    obtain ⟨z1, z2, ⟨x, y, z3⟩, t1, t2⟩ := st
    exact ⟨k' _ (.inl rfl) _ z1, k' _ (.inr (.inl rfl)) _ z2, ⟨x, y, k' _ (.inr (.inr (.inl rfl))) _ z3⟩, t1.at fun o q => k' _ (.inr (.inr (.inr (.inl rfl)))) o q, t2.at fun o q => k' _ (.inr (.inr (.inr (.inr rfl)))) o q⟩
  item X hP hw hK hc i pins s σ H E I hf st hg := by
    subst hP hw hK
    obtain ⟨z1, z2, ⟨x0, y0, z3⟩, t1, t2⟩ := st
    obtain ⟨xs, ys, x, y, qx, qy, ex, ey⟩ := hg
    obtain ⟨us, rv, p1, _⟩ := I.tuple qx
    obtain ⟨vs, rv2, p2, _⟩ := I.list qy
    obtain ⟨u, hu, ru⟩ := rv.get ex
    obtain ⟨u2, hu2, ru2⟩ := rv2.get ey
    have hi1 : i < us.toArray.size := by have := (List.getElem?_eq_some_iff.mp hu).1; simpa using this
    have hi2 : i < vs.toArray.size := by have := (List.getElem?_eq_some_iff.mp hu2).1; simpa using this
    have D1 := Draws.tuple (prog := X.prog) (w := X.w) (A := X.A.in1) (I.ok.hd hc) n a (Nat.ne_of_lt ha) us.toArray
    have D2 := Draws.list (prog := X.prog) (w := X.w) (A := X.A.in1) (I.ok.hd hc) (n + 1) b (Nat.ne_of_lt (Nat.lt_succ_of_lt hb)) vs.toArray
    have lz : n + 4 < s.heap.objs.size := Heap.lt_size z1
    refine wpAny_pyNext_zipD2_item (sepM ha hb) D1 D2 z1 z2 z3 ⟨t1, p1⟩ ⟨t2, p2.isList⟩ hi1 hi2 fun w1 w2 h' tk y1 y2 b1 b2 st1 st2 bT bs keep => ?_
    have e1 : w1 = u := by
      have y1 : us.toArray[i]? = some w1 := y1
      rw [List.getElem?_toArray, hu] at y1
      exact (Option.some.inj y1).symm
    have e2 : w2 = u2 := by
      have y2 : vs.toArray[i]? = some w2 := y2
      rw [List.getElem?_toArray, hu2] at y2
      exact (Option.some.inj y2).symm
    subst e1 e2
    refine ⟨_, rfl, wpAny_letOwnedTupleGo_zip (s := { s with heap := h', toks := tk }) b1 fun h'' z1' sb => ?_⟩
    have hT : h''.get? s.heap.objs.size = some { cls := .type "tuple", data := .seq #[w1, w2] } := (sb.2 _ (Nat.ne_of_gt lz)).trans bT
    have ok : ObjOk X.prog X.w (upd H s.heap.objs.size (.tup [x, y])) h'' s.heap.objs.size (.tup [x, y]) := ⟨by show 2 ≤ sizeLine; decide, [w1, w2], .cons ru (.cons ru2 .nil), _, hT, rfl, _, rfl⟩
    have all : ∀ c o, c ∉ zipCells n → s.heap.get? c = some o → h''.get? c = some o := fun c o hc' q => by
      have hc' := fun z => hc' (mem_cells.mpr z)
      refine (sb.2 c fun z => hc' (.inl z)).trans (keep c o (fun z => hc' (.inl z)) (fun z => hc' (.inr (.inr (.inl z)))) (fun z => hc' (.inr (.inr (.inr (.inl z))))) (fun z => hc' (.inr (.inr (.inr (.inr z))))) q)
    have I1 : Inv X pins σ (upd H s.heap.objs.size (.tup [x, y])) { s with heap := h'', toks := tk } := I.turnedNew (t' := tk) (ch := zipCells n) all hf (Nat.le_refl _) ok
    refine ⟨.ref s.heap.objs.size, _, I1, rfl, ⟨_, x, y, rfl, I.hok.fresh (Nat.le_refl _), rfl, fun l hl => by rw [I.tuple_inj hl qx]; exact ex, fun l hl => by rw [I.list_inj hl qy]; exact ey⟩, ⟨z1', ?_, ⟨w1, w2, ?_⟩, ?_, ?_⟩, fun c hcm => ?_⟩
    · exact (sb.2 _ (by show (n + 2 : Nat) ≠ n + 4; omega)).trans (keep _ _ (by show (n + 2 : Nat) ≠ n + 4; omega) (by show (n + 2 : Nat) ≠ n + 3; omega) (by show (n + 2 : Nat) ≠ n; omega) (by show (n + 2 : Nat) ≠ n + 1; omega) z2)
    · exact (sb.2 _ (by show (n + 3 : Nat) ≠ n + 4; omega)).trans b2
    · exact st1.1.at fun o q => (sb.2 _ (by show (n : Nat) ≠ n + 4; omega)).trans q
    · exact st2.1.at fun o q => (sb.2 _ (by show (n + 1 : Nat) ≠ n + 4; omega)).trans q
    · have lt : c < s.heap.objs.size := by
        have : c ≤ n + 4 := by
          rcases mem_cells.mp hcm with e | e | e | e | e <;> (rw [e]; show (_ : Nat) ≤ n + 4; omega)
        exact Nat.lt_of_le_of_lt this lz
      rw [upd_ne (Nat.ne_of_lt lt)]
      exact (hf c hcm).1
  done X hP hw hK hc i pins s σ H E I hf st hg := by
    subst hP hw hK
    obtain ⟨z1, z2, ⟨x0, y0, z3⟩, t1, t2⟩ := st
    obtain ⟨xs, ys, qx, qy, l1, l2, hend⟩ := hg
    obtain ⟨us, rv, p1, _⟩ := I.tuple qx
    obtain ⟨vs, rv2, p2, _⟩ := I.list qy
    have D1 := Draws.tuple (prog := X.prog) (w := X.w) (A := X.A.in1) (I.ok.hd hc) n a (Nat.ne_of_lt ha) us.toArray
    have D2 := Draws.list (prog := X.prog) (w := X.w) (A := X.A.in1) (I.ok.hd hc) (n + 1) b (Nat.ne_of_lt (Nat.lt_succ_of_lt hb)) vs.toArray
    have e1 := rv.length
    have e2 := rv2.length
    have s1 : us.toArray.size = us.length := List.size_toArray
    have s2 : vs.toArray.size = vs.length := List.size_toArray
    refine wpAny_pyNext_zipD2_end (sepM ha hb) D1 D2 z1 z2 z3 ⟨t1, p1⟩ ⟨t2, p2.isList⟩ (by omega) (by omega) (by omega) fun h' tk keep => ⟨rfl, I.turnedL (t' := tk) (ch := zipCells n) (fun c o hc' q => ?_) hf⟩
    have hc' := fun z => hc' (mem_cells.mpr z)
    exact keep c o (fun z => hc' (.inl z)) (fun z => hc' (.inr (.inr (.inl z)))) (fun z => hc' (.inr (.inr (.inr (.inl z))))) (fun z => hc' (.inr (.inr (.inr (.inr z))))) q
  self A i s Q E st h := wpAny_pyIter_zip st.1 h
/-- the heap when such a zip is made -/
abbrev mzA (h : Heap) (a : Addr) : Heap := h.push { cls := .type "tuple_iterator", data := .fields #[.ref a, .int 0 0] }
abbrev mzB (h : Heap) (a b : Addr) : Heap := (mzA h a).push { cls := .type "list_iterator", data := .fields #[.ref b, .int 0 0] }
abbrev mzC (h : Heap) (a b : Addr) : Heap := (mzB h a b).push { cls := .type "tuple", data := .seq #[.ref h.objs.size, .ref (mzA h a).objs.size] }
abbrev mzD (h : Heap) (a b : Addr) : Heap := (mzC h a b).push { cls := .type "tuple", data := .seq #[.none, .none] }
abbrev mzE (h : Heap) (a b : Addr) : Heap := (mzD h a b).push { cls := .type "zip", data := .fields #[.none, .bool false, .bool false, .ref (mzB h a b).objs.size, .ref (mzC h a b).objs.size] }
theorem zipM_new (a b : Addr) (xs ys : Array Value) :
    Meets (Builtin.«zip.__new__» ⟨[.type "zip", .ref a, .ref b], []⟩) (fun _ R s => (s.heap.IsTuple a xs ∧ s.heap.IsList b ys) ∧ R (.ok (.ret (.ref (mzD s.heap a b).objs.size))) { s with heap := mzE s.heap a b }) :=
  .of_wp fun prog w A R s h => by
    obtain ⟨hp, g, d, tk, os⟩ := s
    obtain ⟨⟨ha, hb⟩, h⟩ := h
    have sub := sub_zip
    have k1 : Heap.IsTuple (Shared.heap ⟨hp, g, d, tk, os⟩) a xs := ha
    have k2 : Heap.IsList (Shared.heap ⟨mzA hp a, g, d, tk, os⟩) b ys := Heap.IsList.push hb _
    wp_walk using wpAny_pyIter_tuple k1, wpAny_pyIter_list k2
    exact ⟨_, rfl, h⟩
theorem call_zipM {prog : Program} {w : World} {A : Around} {E : Value → Shared → Prop} {s : Shared} {a b : Addr} {xs ys : Array Value} {Q : Value → Shared → Prop} (ha : s.heap.IsTuple a xs) (hb : s.heap.IsList b ys)
    (h : ∀ h', ZipM s.heap.objs.size a b 0 h' → h'.objs.size = s.heap.objs.size + 5 → (∀ c o, s.heap.get? c = some o → h'.get? c = some o) → Q (.ref (s.heap.objs.size + 4)) { s with heap := h' }) :
    wpAny (model prog w) A (call (.type "zip") [.ref a, .ref b]) Q E s := by
  refine callType_new F.called_zip (by decide) (F.typeCall_zip_2 _ _) (F.newCall_zip_2 _ _) (fun obj => F.args_object_init_3 obj _ _) F.entry_zip_new (zipM_new a b xs ys) ⟨⟨ha, hb⟩, ?_⟩
  have nA : (mzA s.heap a).objs.size = s.heap.objs.size + 1 := Heap.size_push ..
  have nB : (mzB s.heap a b).objs.size = s.heap.objs.size + 2 := by rw [Heap.size_push, nA]
  have nC : (mzC s.heap a b).objs.size = s.heap.objs.size + 3 := by rw [Heap.size_push, nB]
  have nD : (mzD s.heap a b).objs.size = s.heap.objs.size + 4 := by rw [Heap.size_push, nC]
  have nE : (mzE s.heap a b).objs.size = s.heap.objs.size + 5 := by rw [Heap.size_push, nD]
  have gE : (mzE s.heap a b).get? (mzD s.heap a b).objs.size = some _ := Heap.get?_push_size _ rfl
  have gD : (mzE s.heap a b).get? (mzC s.heap a b).objs.size = some _ := Heap.get?_push_of_some _ (Heap.get?_push_size _ rfl)
  have gC : (mzE s.heap a b).get? (mzB s.heap a b).objs.size = some _ := Heap.get?_push_of_some _ (Heap.get?_push_of_some _ (Heap.get?_push_size _ rfl))
  have gB : (mzE s.heap a b).get? (mzA s.heap a).objs.size = some _ := Heap.get?_push_of_some _ (Heap.get?_push_of_some _ (Heap.get?_push_of_some _ (Heap.get?_push_size _ rfl)))
  have gA : (mzE s.heap a b).get? s.heap.objs.size = some _ := Heap.get?_push_of_some _ (Heap.get?_push_of_some _ (Heap.get?_push_of_some _ (Heap.get?_push_of_some _ (Heap.get?_push_size _ rfl))))
  rw [nB, nC, nD] at gE
  rw [nC] at gD
  rw [nA, nB] at gC
  rw [nA] at gB
  rw [nD]
  show _ ∧ _
  refine ⟨⟨_, gE, rfl⟩, h (mzE s.heap a b) ⟨gE, gC, ⟨.none, .none, gD⟩, ⟨_, gA, rfl, rfl⟩, ⟨_, gB, rfl, rfl⟩⟩ nE fun c o e => ?_⟩
  exact Heap.get?_push_of_some _ (Heap.get?_push_of_some _ (Heap.get?_push_of_some _ (Heap.get?_push_of_some _ (Heap.get?_push_of_some _ e))))
def iZipM (K : PySem.W.Frag) (ta : TA) : TI := fun σ H R => ta σ H fun vs H1 => ∃ a b xs ys, vs = [.ref a, .ref b] ∧ SqT K H1 a xs ∧ SqL K H1 b ys ∧ R (ItzM K a b) H1
theorem pi_zipM {X : Cx} {e e2 : Expr} {ta : TA} {p pos tpos : Pos} {elts : List Expr} {kk : Nat} (hg : Gl X "zip") (hm : X.mg "zip" = none) (ha : PA X [e, e2] ta)
    (hs : starEach [e, e2] X.env = (false, eval e X.env) :: starEach [e2] X.env := by rfl) (hpl : (backTo pos (starEach [e2] X.env)).any (·.1) = false := by rfl) :
    PI X (.Tuple elts kk tpos) (.Call (.Name "zip" p) [e, e2] [] pos) (iZipM X.K ta) := by
  constructor
  intro pins s σ H R I h
  refine Call_ (ld_blt I hg hm PyProof.Rows.boot_zip (PyProof.Rows.callWith_type1 (thn (ha.run pos pins s σ H _ I h) fun us s1 z => ?_) hs hpl))
  obtain ⟨vs, H1, I1, r1, a, b, xs, ys, rfl, qx, qy, q⟩ := z
  obtain ⟨v1, v2, rfl, r, r'⟩ := vals2 r1
  cases r
  cases r'
  obtain ⟨us, rv, p1, _⟩ := I1.tuple qx
  obtain ⟨ws, rv2, p2, _⟩ := I1.list qy
  obtain ⟨o1, ho1, _⟩ := id p1
  have lb : b < s1.heap.objs.size := p2.lt
  refine call_zipM (show s1.heap.IsTuple a us.toArray from p1) p2.isList fun h' st n5 keep => wpAny_pyIter_zip st.1 ?_
  refine ⟨_, zipCells s1.heap.objs.size, _, _, H1, rfl, I1.kept (t' := s1.toks) keep, turn_zipM (Heap.lt_size ho1) lb, st, fun c hc => ?_, q⟩
  have le : s1.heap.objs.size ≤ c := by
    rcases mem_cells.mp hc with e | e | e | e | e <;> (rw [e]; first | exact Nat.le_refl _ | exact Nat.le_add_right _ _)
  exact I1.fpOk le (I1.hok.fresh le)
theorem walk_zipM {K : PySem.W.Frag} {a b : Addr} {xs ys : List V} (hl : xs.length = ys.length) : Walk (ItzM K a b) xs.length (fun H => SqT K H a xs ∧ SqL K H b ys) (YPair (fun i => xs[i]?) (fun i => ys[i]?)) := by
  refine ⟨fun i _ hi q => ⟨xs, ys, xs[i], ys[i]'(by omega), q.1, q.2, by simp [hi], by simp⟩, fun _ q => ⟨xs, ys, q.1, q.2, Nat.le_refl _, by omega, .inl rfl⟩, fun i H v H' _ q y => ?_⟩
  obtain ⟨T, x, z, h1, h2, h3, h4, h5⟩ := y
  exact ⟨T, x, z, h1, h2, h3, h4 xs q.1, h5 ys q.2⟩
theorem walk_zipT {K : PySem.W.Frag} {a b : Addr} {xs ys : List V} (hl : xs.length = ys.length) : Walk (ItzT K a b) xs.length (fun H => SqT K H a xs ∧ SqT K H b ys) (YPair (fun i => xs[i]?) (fun i => ys[i]?)) := by
  refine ⟨fun i _ hi q => ⟨xs, ys, xs[i], ys[i]'(by omega), q.1, q.2, by simp [hi], by simp⟩, fun _ q => ⟨xs, ys, q.1, q.2, .inl (Nat.le_refl _)⟩, fun i H v H' _ q y => ?_⟩
  obtain ⟨T, x, z, h1, h2, h3, h4, h5⟩ := y
  exact ⟨T, x, z, h1, h2, h3, h4 xs q.1, h5 ys q.2⟩
/-- zip of a tuple and of a list or a tuple -/
def iZipTX (K : PySem.W.Frag) (ta : TA) : TI := fun σ H R => iZipM K ta σ H R ∨ iZipA K ta σ H R
theorem pi_zipTX {X : Cx} {K : PySem.W.Frag} {e e2 : Expr} {ta : TA} {p pos tpos : Pos} {elts : List Expr} {kk : Nat} (hg : Gl X "zip") (hm : X.mg "zip" = none) (ha : PA X [e, e2] ta)
    (hs : starEach [e, e2] X.env = (false, eval e X.env) :: starEach [e2] X.env := by rfl) (hpl : (backTo pos (starEach [e2] X.env)).any (·.1) = false := by rfl) (hK : X.K = K := by rfl) :
    PI X (.Tuple elts kk tpos) (.Call (.Name "zip" p) [e, e2] [] pos) (iZipTX K ta) := by
  subst hK
  constructor
  intro pins s σ H R I h
  rcases h with h | h
  · exact (pi_zipM hg hm ha hs hpl).run pins s σ H R I h
  · exact (pi_zipA hg hm ha hs hpl).run pins s σ H R I h
end KX

namespace KX
open PySem PySem.Spec PyProof.Rows L2
/-! ### ranges as values -/
/-- a range object from 0 on -/
def rRng1 : List V → Hp → VK → Prop := fun vs H Q => ∃ j : Int, vs = [.int j] ∧ NewO H (.rng 0 j) Q
theorem cr_rng1 {X : Cx} : CallR X (.type "range") rRng1 := fun pins s σ H vs us Q I r h => by
  obtain ⟨j, rfl, q⟩ := h
  obtain ⟨u, rfl, t, rfl⟩ := vals1 r
  have hn : H s.heap.objs.size = none := I.hok.fresh (Nat.le_refl _)
  exact call_range_1 ⟨.ref s.heap.objs.size, upd H s.heap.objs.size (.rng 0 j), I.laid (t' := s.toks + 2) (fun b o e => Heap.get?_push_of_some _ e) (Nat.le_refl _) ⟨_, _, _, Heap.get?_push_size _ rfl⟩, rfl, q _ _ hn (Same.fresh hn) upd_same⟩
def iRngO (te : TE) : TI := fun σ H R => te σ H fun x H1 => ∃ (a : Addr) (lo hi : Int), x = .ref a ∧ H1 a = some (.rng lo hi) ∧ (-(2 ^ 62) ≤ lo ∧ lo < 2 ^ 62 ∧ -(2 ^ 62) ≤ hi ∧ hi < 2 ^ 62) ∧ R (Itr lo (hi - lo).toNat) H1
theorem pi_rngO {X : Cx} {tg e : Expr} {te : TE} (he : PE X e te) : PI X tg e (iRngO te) := by
  constructor
  intro pins s σ H R I h
  refine thn (he.run pins s σ H _ I h) fun v s1 z => ?_
  obtain ⟨x, H1, I1, r1, a, lo, hi, rfl, ha, ⟨b1, b2, b3, b4⟩, q⟩ := z
  cases r1
  obtain ⟨t, u, w, ho⟩ := I1.hok a _ ha
  refine wpAny_pyIter_range (show IsRange _ _ _ _ _ _ _ _ from ho) (small_one b1 b2 b3 b4) ?_
  refine pi_one (tk := s1.toks) I1 _ (turn_range _ lo (hi - lo).toNat) ?_ q
  have e1 : lo + ((0 : Nat) : Int) * 1 = lo := by omega
  have e2 : (((hi - lo).toNat : Nat) : Int) - ((0 : Nat) : Int) = Builtin.Range.rangeSize lo hi 1 := by
    rw [rangeSize_one]
    split <;> omega
  show IsRangeIter _ _ (lo + ((0 : Nat) : Int) * 1) _ 1
  rw [e1, e2]
  exact Heap.get?_push_size _ rfl
end KX

namespace KX
open PySem PySem.Spec PyProof.Rows L2
/-! ### comprehensions of four clauses -/
/-- the rest of a turn behind the tests, in the manner of a continuation -/
def actEmit (elt : Expr) (acc : Value) (env : Env) : Sem Fin → Sem Fin := fun kk => do
  (do let _ ← call (.builtin "list.append") [acc, ← eval elt env] : Sem Unit)
  kk
def actNext (c : Expr) (k : Nat) (src : Expr) (acc : Value) (env : Env) : Sem Fin → Sem Fin := fun kk => do
  let x ← eval src env
  standAt src.pos
  let y ← foldedSetIterable src env x
  let _ ← runOwn (.compStart c k (← holding [y] (pyIter y)) acc env) env
  kk
def turnBy (tg : Expr) (ip : Pos) (ifs : List Expr) (act : Sem Fin → Sem Fin) (c : Expr) (k : Nat) (it acc : Value) (env : Env) : Sem Fin := do
  standAt ip
  match ← pyNext it with
  | none => pure (.done .next)
  | some v =>
    letOwnedTupleGo tg it v
    assign tg env v
    let fine ← forIn ifs true fun c r => if r = true then do let ok ← isTrue c env (eval c env); pure (ForInStep.yield ok) else pure (ForInStep.yield r)
    if fine = true then act (again (.compLoop c k it acc env)) else again (.compLoop c k it acc env)
section
variable {elt t0 i0 t1 i1 t2 i2 t3 i3 : Expr} {f0 f1 f2 f3 : List Expr} {scope : Scope} {pos : Pos} {it acc : Value} {env : Env}
abbrev lc4 (elt t0 i0 t1 i1 t2 i2 t3 i3 : Expr) (f0 f1 f2 f3 : List Expr) (scope : Scope) (pos : Pos) : Expr := .ListComp elt [⟨t0, i0, f0, 0⟩, ⟨t1, i1, f1, 0⟩, ⟨t2, i2, f2, 0⟩, ⟨t3, i3, f3, 0⟩] scope pos
theorem turn4_0 : compTurn (lc4 elt t0 i0 t1 i1 t2 i2 t3 i3 f0 f1 f2 f3 scope pos) 0 it acc env = turnBy t0 i0.pos f0 (actNext (lc4 elt t0 i0 t1 i1 t2 i2 t3 i3 f0 f1 f2 f3 scope pos) 1 i1 acc env) (lc4 elt t0 i0 t1 i1 t2 i2 t3 i3 f0 f1 f2 f3 scope pos) 0 it acc env := by rfl
theorem turn4_1 : compTurn (lc4 elt t0 i0 t1 i1 t2 i2 t3 i3 f0 f1 f2 f3 scope pos) 1 it acc env = turnBy t1 i1.pos f1 (actNext (lc4 elt t0 i0 t1 i1 t2 i2 t3 i3 f0 f1 f2 f3 scope pos) 2 i2 acc env) (lc4 elt t0 i0 t1 i1 t2 i2 t3 i3 f0 f1 f2 f3 scope pos) 1 it acc env := by rfl
theorem turn4_2 : compTurn (lc4 elt t0 i0 t1 i1 t2 i2 t3 i3 f0 f1 f2 f3 scope pos) 2 it acc env = turnBy t2 i2.pos f2 (actNext (lc4 elt t0 i0 t1 i1 t2 i2 t3 i3 f0 f1 f2 f3 scope pos) 3 i3 acc env) (lc4 elt t0 i0 t1 i1 t2 i2 t3 i3 f0 f1 f2 f3 scope pos) 2 it acc env := by rfl
theorem turn4_3 : compTurn (lc4 elt t0 i0 t1 i1 t2 i2 t3 i3 f0 f1 f2 f3 scope pos) 3 it acc env = turnBy t3 i3.pos f3 (actEmit elt acc env) (lc4 elt t0 i0 t1 i1 t2 i2 t3 i3 f0 f1 f2 f3 scope pos) 3 it acc env := by rfl
end
section
variable {prog : Program} {w : World} {A : Around} {R : Result → Shared → Prop} {s : Shared} {elt tg src : Expr} {gs : List Comprehension} {scope : Scope} {pos : Pos} {ip : Pos} {ifs : List Expr} {act : Sem Fin → Sem Fin} {k : Nat} {it acc : Value} {env : Env}
theorem loop_by (heq : compTurn (.ListComp elt gs scope pos) k it acc env = turnBy tg ip ifs act (.ListComp elt gs scope pos) k it acc env) (J : Nat → Shared → Prop)
    (turn : ∀ n s, J n s → wpAny (model prog w) A (pyNext it) (fun r s1 => match r with
      | none => R (.ok .next) s1
      | some v => wpAny (model prog w) A (letOwnedTupleGo tg it v) (fun _ s2 => wpAny (model prog w) A (assign tg env v) (fun _ s3 =>
          wpAny (model prog w) A (forIn ifs true fun c r => if r = true then do let ok ← isTrue c env (eval c env); pure (ForInStep.yield ok) else pure (ForInStep.yield r)) (fun fine s4 =>
            if fine = true then ∀ (kk : Sem Fin) (Q : Fin → Shared → Prop) (E : Value → Shared → Prop), (∀ s', (∃ m, m < n ∧ J m s') → wpAny (model prog w) A kk Q E s') → wpAny (model prog w) A (act kk) Q E s4
            else ∃ m, m < n ∧ J m s4) (fun _ _ => False) s3) (fun _ _ => False) s2) (fun _ _ => False) s1) (fun _ _ => False) s) (n : Nat) (h : J n s) :
    codeAny (model prog w) A (.compLoop (.ListComp elt gs scope pos) k it acc env) R s := by
  refine codeAny_loop rfl J (fun n s hI => ?_) n h
  show wpAny _ A ((compTurn (.ListComp elt gs scope pos) k it acc env).onRaise (fun x => do noteFrame x env; theTreesLotGoes x)) _ _ s
  refine wpAny_noted ?_
  rw [heq]
  unfold turnBy
  refine wpAny_bind (wpAny_standAt (wpAny_bind (thnF (turn n s hI) fun r s1 h1 => ?_)))
  cases r with
  | none => exact wpAny_pure h1
  | some v =>
    refine wpAny_bind (thnF h1 fun _ s2 h2 => wpAny_bind (thnF h2 fun _ s3 h3 => wpAny_bind (thnF h3 fun fine s4 h4 => ?_)))
    cases fine with
    | false =>
      have h4 : ∃ m, m < n ∧ J m s4 := by simpa using h4
      exact wpAny_pure ⟨rfl, h4⟩
    | true =>
      exact (show ∀ (kk : Sem Fin) (Q : Fin → Shared → Prop) (E : Value → Shared → Prop), (∀ s', (∃ m, m < n ∧ J m s') → wpAny (model prog w) A kk Q E s') → wpAny (model prog w) A (act kk) Q E s4 by simpa using h4) _ _ _ fun s' hs' => wpAny_pure ⟨rfl, hs'⟩
theorem start_by {g : Comprehension} (hcl : (clausesOf (.ListComp elt gs scope pos))[k]? = some g) (ha : g.is_async = 0) (h0 : codeAny (model prog w) A (.compLoop (.ListComp elt gs scope pos) k it acc env) R s)
    (h : wpAny (model prog w) A (pyIter it) (fun it' s' => codeAny (model prog w) A (.compLoop (.ListComp elt gs scope pos) k it' acc env) R s') (notedBy (model prog w) A env fun x s' => R (.error x) s') s) :
    codeAny (model prog w) A (.compStart (.ListComp elt gs scope pos) k it acc env) R s := by
  refine codeAny_of_tree ?_
  show wpAny _ _ ((compStart (.ListComp elt gs scope pos) k it acc env).onRaise (fun x => do noteFrame x env; standAt theWindowsPlace)) _ _ s
  refine wpAny_notedAt ?_
  unfold compStart
  rw [hcl]
  have e : (Option.elim (some g) false (·.is_async != 0)) = false := by
    show (g.is_async != 0) = false
    rw [ha]; rfl
  rw [e]
  show wpAny _ _ (ask >>= _) _ _ s
  refine wpAny_bind (wpAny_askSetting (wpAny_ite ?_))
  split
  · first
      | exact wpAny_pure ⟨rfl, h0⟩
      | exact wpAny_bind (wpAny_pure (wpAny_pure ⟨rfl, h0⟩))
  · refine wpAny_bind (wpAny_rule ?_)
    show wpAny _ _ (standAt g.iter.pos >>= _) _ _ s
    exact wpAny_bind (wpAny_standAt (wpAny_bind (wpAny_mono h (fun it' s' h' => wpAny_pure ⟨rfl, h'⟩) fun _ _ x => x)))
end
/-- the slots that a turn may have set are forgotten behind it -/
structure ActOk (B : Cx) (act : Sem Fin → Sem Fin) (vs : List Nat) (body : (Hp → Prop) → L2.St → Hp → Prop) : Prop where
  run : ∀ (pins : List (Addr × Obj)) (s : Shared) (σ : L2.St) (H : Hp) (Nx : Hp → Prop) (kk : Sem Fin) (Q : Fin → Shared → Prop) (E : Value → Shared → Prop), Inv B pins σ H s → body Nx σ H →
    (∀ s' H', Inv B pins (wipe σ vs) H' s' → Nx H' → wpAny (model B.prog B.w) B.A kk Q E s') → wpAny (model B.prog B.w) B.A (act kk) Q E s
def bEmit (te : TE) (D : Addr) : (Hp → Prop) → L2.St → Hp → Prop := fun Nx σ H => te σ H fun y H4 => ∃ acc, H4 D = some (.lst acc) ∧ acc.length < sizeLine ∧ Nx (upd H4 D (.lst (acc ++ [y])))
/-- one more clause -/
def bCl (wi : TI) (g : TG) (tt : TT) (vs : List Nat) (body : (Hp → Prop) → L2.St → Hp → Prop) : (Hp → Prop) → L2.St → Hp → Prop := fun Nx σ H => wi σ H fun J H1 => ∃ W : Nat → Nat → Hp → Prop, (∃ m, W 0 m H1) ∧ ∀ j m H, W j m H →
  (J.stop j H ∧ Nx H) ∨ (J.go j H ∧ ∃ N : Hp → Prop, (∀ H', N H' → ∃ m', m' < m ∧ W (j + 1) m' H') ∧ ∀ x H', J.yld j H x H' → g x (wipe σ vs) H' fun σ2 H2 => wipe σ2 vs = wipe σ vs ∧ tt σ2 H2 fun b H3 => if b = true then body N σ2 H3 else N H3)
theorem act_emit {B : Cx} {elt : Expr} {te : TE} {D : Addr} (hx : B.xe = fun _ _ => False) (he : PE B elt te) : ActOk B (actEmit elt (.ref D) B.env) [] (bEmit te D) := by
  refine ⟨fun pins s σ H Nx kk Q E I h q => ?_⟩
  have r := he.run pins s σ H _ I h
  rw [hx] at r
  unfold actEmit
  refine wpAny_bind (wpAny_bind (thnF r fun z s1 ⟨y, H1, I1, r1, acc, hD, hz, nx⟩ => wpAny_bind (app_ok I1 hD hz r1 fun s2 I2 => ?_)))
  exact wpAny_pure (q s2 _ I2 nx)
theorem wipe_sub {σ τ : L2.St} {vs ws : List Nat} (hs : ∀ i ∈ ws, i ∈ vs) (e : wipe τ vs = wipe σ vs) : (wipe σ vs).length = (wipe τ ws).length ∧ ∀ (j : Nat) v, (wipe σ vs)[j]? = some (some v) → (wipe τ ws)[j]? = some (some v) := by
  refine ⟨by rw [← e, wipe_length, wipe_length], fun j v z => ?_⟩
  rw [← e] at z
  obtain ⟨z1, z2⟩ := wipe_some z
  rw [wipe_out fun m => z2 (hs j m)]
  exact z1
theorem act_next {B : Cx} {elt tg src : Expr} {gs : List Comprehension} {scope : Scope} {pos : Pos} {ifs : List Expr} {k : Nat} {D : Addr} {act : Sem Fin → Sem Fin} {vs ws : List Nat} {body : (Hp → Prop) → L2.St → Hp → Prop} {wi : TI} {g : TG} {tt : TT} (hx : B.xe = fun _ _ => False) (hc : B.calm = true)
    (hcl : (clausesOf (.ListComp elt gs scope pos))[k]? = some ⟨tg, src, ifs, 0⟩) (heq : ∀ it, compTurn (.ListComp elt gs scope pos) k it (.ref D) B.env = turnBy tg src.pos ifs act (.ListComp elt gs scope pos) k it (.ref D) B.env) (hs : ∀ x, foldedSetIterable src B.env x = pure x) (sub : ∀ i ∈ ws, i ∈ vs)
    (hi : PI B tg src wi) (hg : PG B tg g) (ht : PTs B ifs tt) (ha : ActOk B act ws body) : ActOk B (actNext (.ListComp elt gs scope pos) k src (.ref D) B.env) vs (bCl wi g tt vs body) := by
  refine ⟨fun pins s σ H Nx kk Q E I h q => ?_⟩
  have r := hi.run pins s σ H _ I h
  rw [hx] at r
  unfold actNext
  refine wpAny_bind (thnF r fun xv s1 h1 => wpAny_bind (wpAny_standAt (wpAny_bind (wpAny_of_eq (hs xv) (wpAny_bind (wpAny_holding (thnF h1 fun itv s2 h2 => ?_)))))))
  obtain ⟨it, fp, tn, J, H2, e, I2, T, st2, f2, W, ⟨m0, w0⟩, turn⟩ := h2
  subst e
  refine wpAny_bind (wpAny_runOwn ?_)
  rw [Around.mark_none]
  have stat : ∀ {H' : Hp}, (∀ b ∈ fp, H' b = none) → ∀ b ∈ fp, FpOk B pins H' b := fun n b hb => ⟨n b hb, (f2 b hb).2⟩
  have loop : codeAny (model B.prog B.w) B.A (.compLoop (.ListComp elt gs scope pos) k (.ref it) (.ref D) B.env) (fun r s' => match r with
      | .ok _ => ∃ H', Inv B pins (wipe σ vs) H' s' ∧ Nx H'
      | .error _ => False) s2 := by
    refine loop_by (heq _) (fun n s' => ∃ j H', Inv B pins (wipe σ vs) H' s' ∧ tn j s'.heap ∧ (∀ b ∈ fp, H' b = none) ∧ W j n H') ?_ m0 ⟨0, H2, I2.weak (wipe_length _ _) (fun j v e => (wipe_some e).1), st2, fun b hb => (f2 b hb).1, w0⟩
    rintro n s3 ⟨j, H3, I3, st3, n3, w3⟩
    rcases turn j n H3 w3 with ⟨stop, nx⟩ | ⟨go, N, hN, step⟩
    · refine thnF (T.done B rfl rfl rfl hc j _ s3 _ H3 (fun _ _ => False) I3 (stat n3) st3 stop) fun r s4 ⟨hr, I4⟩ => ?_
      subst hr
      exact ⟨H3, I4, nx⟩
    · refine thnF (T.item B rfl rfl rfl hc j _ s3 _ H3 (fun _ _ => False) I3 (stat n3) st3 go) fun r s4 ⟨u, hr, h4⟩ => ?_
      subst hr
      refine thnF h4 fun _ s5 ⟨x, H5, I5, r5, y5, st5, n5⟩ => ?_
      have I5' := I5.pinned (stat n5) (T.obj _ _ st5)
      have rg := hg.run _ s5 _ H5 x u _ I5' r5 (step x H5 y5)
      rw [hx] at rg
      refine thnF rg fun _ s6 ⟨σ6, H6, I6, hw6, q6⟩ => ?_
      have rt := ht.run _ s6 σ6 H6 _ I6 q6
      rw [hx] at rt
      refine thnF rt fun b s7 ⟨H7, I7, q7⟩ => ?_
      have fin : ∀ {τ : L2.St} {s' : Shared} {H' : Hp}, Inv B (pins ++ pinsAt fp s5.heap) τ H' s' → (wipe σ vs).length = τ.length → (∀ (j : Nat) v, (wipe σ vs)[j]? = some (some v) → τ[j]? = some (some v)) → N H' →
          ∃ m, m < n ∧ ∃ j H', Inv B pins (wipe σ vs) H' s' ∧ tn j s'.heap ∧ (∀ b ∈ fp, H' b = none) ∧ W j m H' := fun {τ s' H'} I' hl hk nx => by
        obtain ⟨m', hm, w'⟩ := hN H' nx
        have pin' : ∀ b ∈ fp, ∀ o, s5.heap.get? b = some o → s'.heap.get? b = some o ∧ H' b = none := fun b hb o e =>
          let z := I'.pin (b, o) (List.mem_append_right _ (List.mem_append_right _ (mem_pinsAt hb e)))
          ⟨z.1, z.2.1⟩
        refine ⟨m', hm, j + 1, H', I'.unpinned.weak hl hk, T.keep _ _ _ st5 fun b hb o e => (pin' b hb o e).1, fun b hb => ?_, w'⟩
        obtain ⟨o, e, _⟩ := T.obj _ _ st5 b hb
        exact (pin' b hb o e).2
      cases b with
      | false =>
        simp only [Bool.false_eq_true, if_false] at q7 ⊢
        exact fin I7 (by rw [← hw6, wipe_length]) (fun j v e => by rw [← hw6] at e; exact (wipe_some e).1) q7
      | true =>
        simp only [if_true] at q7 ⊢
        intro kk' Q' E' hk'
        obtain ⟨hl, hk⟩ := wipe_sub sub hw6
        exact ha.run _ s7 σ6 H7 N kk' Q' E' I7 q7 fun s' H' I' nx => hk' s' (fin I' hl hk nx)
  refine codeAny_mono (start_by hcl rfl loop (T.self B.A 0 _ _ _ st2 loop)) fun r s' hr => ?_
  cases r with
  | ok f =>
    obtain ⟨H', I', nx⟩ := hr
    exact q s' H' I' nx
  | error e => exact hr.elim
/-- a comprehension by what its first clause's turns do; D: the new list -/
def tLcB (wi : TI) (g : TG) (tt : TT) (vs : List Nat) (body : Addr → (Hp → Prop) → L2.St → Hp → Prop) : TE := fun σ H Q => wi σ H fun J H1 => ∀ D, H1 D = none → ∃ W : Nat → Nat → Hp → Prop, (∃ m, W 0 m (upd H1 D (.lst []))) ∧ ∀ i m H, W i m H →
  (J.stop i H ∧ Q (.ref D) H) ∨ (J.go i H ∧ ∃ N : Hp → Prop, (∀ H', N H' → ∃ m', m' < m ∧ W (i + 1) m' H') ∧ ∀ x H', J.yld i H x H' → g x (wipe σ vs) H' fun σ2 H2 => wipe σ2 vs = wipe σ vs ∧ tt σ2 H2 fun b H3 => if b = true then body D N σ2 H3 else N H3)
section
variable {X : Cx}
abbrev bx (X : Cx) (scope : Scope) (s : Shared) (H : Hp) (C : Addr) (cl : List (Str × Addr)) (fp : List Addr) : Cx := X.blk s H scope (compEnvC scope cl C X.env) fp
theorem lcB_core {pins : List (Addr × Obj)} {s : Shared} {σ : L2.St} {H : Hp} {Q : VK} {elt tg src : Expr} {ifs : List Expr} {gs : List Comprehension} {scope : Scope} {pos : Pos} {own : List (Str × Nat)} {ws : List Nat} {pos' : Pos} {wi : TI} {g : TG} {tt : TT} {act : Addr → Env → Sem Fin → Sem Fin} {body : Addr → (Hp → Prop) → L2.St → Hp → Prop}
    {use : Option (Value → Sem Unit)} {Qf : Value → Shared → Prop} (hc : X.calm = true) (hN : X.N.Nodup) (I : Inv X pins σ H s) (heq : ∀ it D env, compTurn (.ListComp elt (⟨tg, src, ifs, 0⟩ :: gs) scope pos) 0 it (.ref D) env = turnBy tg src.pos ifs (act D env) (.ListComp elt (⟨tg, src, ifs, 0⟩ :: gs) scope pos) 0 it (.ref D) env)
    (hs : ∀ x, foldedSetIterable src X.env x = pure x) (ok : BlkOk X.N X.env.scope scope own) (sub : ∀ i ∈ ws, i ∈ own.map (·.2)) (hi : PI X tg src wi)
    (hg : ∀ s H C cl fp, PG (bx X scope s H C cl fp) tg g) (ht : ∀ s H C cl fp, PTs (bx X scope s H C cl fp) ifs tt) (ha : ∀ s H C cl fp D, ActOk (bx X scope s H C cl fp) (act D (compEnvC scope cl C X.env)) ws (body D))
    (h : tLcB wi g tt (own.map (·.2)) body σ H Q)
    (fine : ∀ D C s' m H', Inv X pins σ H' s' → Q (.ref D) H' → s'.heap.Ns C m → FpOk X pins H' C → compPost (model X.prog X.w) X.A X.xe use Qf (.ref D) C (.ok .next) s') :
    wpAny (model X.prog X.w) X.A (comprehension (.ListComp elt (⟨tg, src, ifs, 0⟩ :: gs) scope pos) scope X.env pos' (newList []) false (eval src X.env) use) Qf X.xe s := by
  have cells : ∀ y ∈ scope.names, y.2 = .free → ∃ c, X.env.cells.lookup y.1 = some c := fun y hy e => (ok.free y hy e).elim (fun k => I.ok.has _ (.inl k)) fun k => I.ok.has _ (.inr k)
  refine wpAny_comprehension_free (use := use) rfl hs (closure_ok cells) ok.kind (fun y hy e => by rw [ok.uniq y hy, e]) (thn (hi.run pins s σ H _ I h) fun xv sA hx => thn hx fun itv sB hB => ?_)
  obtain ⟨it, fp, tn, J, HB, rfl, IB, T, stB, fB, q⟩ := hB
  refine wpAny_newObj_type (newEnv_comp ?_) (by show 0 ≤ sizeLine; decide)
  obtain ⟨D, hD⟩ : ∃ D, sB.heap.objs.size = D := ⟨_, rfl⟩
  have hDn : HB D = none := IB.hok.fresh (Nat.le_of_eq hD)
  obtain ⟨W, ⟨m0, w0⟩, turn⟩ := q D hDn
  rw [hD]
  obtain ⟨sL, hsL⟩ : ∃ sL : Shared, ({ sB with heap := sB.heap.push { cls := .type "list", data := .seq ([] : List Value).toArray } } : Shared) = sL := ⟨_, rfl⟩
  have hL : sL.heap = sB.heap.push { cls := .type "list", data := .seq ([] : List Value).toArray } := by rw [← hsL]
  have IL : Inv X pins σ (upd HB D (.lst [])) sL := by
    rw [← hsL]
    exact IB.laid (t' := sB.toks) (fun b o e => Heap.get?_push_of_some _ e) (Nat.le_of_eq hD) ⟨Nat.zero_le _, [], 0, .nil, by rw [← hD]; exact Heap.get?_push_size _ rfl⟩
  have lt : ∀ b ∈ fp, b < sB.heap.objs.size := fun b hb => by
    obtain ⟨o, e, _⟩ := T.obj _ _ stB b hb
    exact Heap.lt_size e
  have fL : ∀ b ∈ fp, FpOk X pins (upd HB D (.lst [])) b ∧ b < sL.heap.objs.size := fun b hb => by
    have l := lt b hb
    refine ⟨⟨?_, (fB b hb).2⟩, by rw [hL, Heap.size_push]; exact Nat.lt_succ_of_lt l⟩
    rw [upd_ne (by rw [← hD]; exact Nat.ne_of_lt l)]
    exact (fB b hb).1
  have stL : tn 0 sL.heap := T.keep _ _ _ stB fun b _ o e => by rw [hL]; exact Heap.get?_push_of_some _ e
  have IE := block_start IL ok hN fL
  have pg : PG (X.blk sL (upd HB D (.lst [])) scope (compEnvC scope (cellsFrom (sL.heap.objs.size + 1) scope.names (cloFrom X.env.cells scope.names [])) sL.heap.objs.size X.env) fp) tg g := hg sL (upd HB D (.lst [])) sL.heap.objs.size (cellsFrom (sL.heap.objs.size + 1) scope.names (cloFrom X.env.cells scope.names [])) fp
  have pt : PTs (X.blk sL (upd HB D (.lst [])) scope (compEnvC scope (cellsFrom (sL.heap.objs.size + 1) scope.names (cloFrom X.env.cells scope.names [])) sL.heap.objs.size X.env) fp) ifs tt := ht sL (upd HB D (.lst [])) sL.heap.objs.size (cellsFrom (sL.heap.objs.size + 1) scope.names (cloFrom X.env.cells scope.names [])) fp
  have pa : ActOk (X.blk sL (upd HB D (.lst [])) scope (compEnvC scope (cellsFrom (sL.heap.objs.size + 1) scope.names (cloFrom X.env.cells scope.names [])) sL.heap.objs.size X.env) fp) (act D (compEnvC scope (cellsFrom (sL.heap.objs.size + 1) scope.names (cloFrom X.env.cells scope.names [])) sL.heap.objs.size X.env)) ws (body D) := ha sL (upd HB D (.lst [])) sL.heap.objs.size (cellsFrom (sL.heap.objs.size + 1) scope.names (cloFrom X.env.cells scope.names [])) fp D
  rw [hsL]
  show codeAny _ _ (.compStart (.ListComp elt (⟨tg, src, ifs, 0⟩ :: gs) scope pos) 0 (.ref it) (.ref D) (compEnvC scope (cellsFrom (sL.heap.objs.size + 1) scope.names (cloFrom X.env.cells scope.names [])) sL.heap.objs.size X.env)) (compPost (model X.prog X.w) X.A X.xe use Qf (.ref D) sL.heap.objs.size) { sL with heap := pushCells (sL.heap.push { cls := .type "dict", data := .dict #[] }) scope.names }
  have nfp : ∀ b ∈ fp, (upd HB D (.lst [])) b = none := fun b hb => (fL b hb).1.1
  generalize hce : compEnvC scope (cellsFrom (sL.heap.objs.size + 1) scope.names (cloFrom X.env.cells scope.names [])) sL.heap.objs.size X.env = ce at IE pg pt pa ⊢
  have cL : ce.locals = sL.heap.objs.size := by subst hce; rfl
  generalize hHL : upd HB D (.lst []) = HL at IL IE pg pt pa w0 nfp fL
  generalize hsE : ({ sL with heap := pushCells (sL.heap.push { cls := .type "dict", data := .dict #[] }) scope.names } : Shared) = sE at IE ⊢
  have stE : tn 0 sE.heap := T.keep _ _ _ stL fun b _ o e => by rw [← hsE]; exact pushCells_keeps _ _ _ _ (Heap.get?_push_of_some _ e)
  have stat : ∀ {σ' : L2.St} {H' : Hp} {s' : Shared}, Inv (X.blk sL HL scope ce fp) [] σ' H' s' → (∀ b ∈ fp, H' b = none) → ∀ b ∈ fp, FpOk (X.blk sL HL scope ce fp) [] H' b := fun {σ' H' s'} I' n b hb =>
    ⟨n b hb, (I'.ok.exf b hb).1, I'.ok.exfs b hb, .inl hb, fun x c e => (I'.ok.exf b hb).2 x c e, fun p hp => absurd (show p ∈ ([] : List (Addr × Obj)) ++ [] from hp) (by simp)⟩
  have loop : codeAny (model X.prog X.w) X.A (.compLoop (.ListComp elt (⟨tg, src, ifs, 0⟩ :: gs) scope pos) 0 (.ref it) (.ref D) ce) (compPost (model X.prog X.w) X.A X.xe use Qf (.ref D) sL.heap.objs.size) sE := by
    refine loop_by (heq _ _ _) (fun n s' => ∃ i H', Inv (X.blk sL HL scope ce fp) [] (wipe σ (own.map (·.2))) H' s' ∧ tn i s'.heap ∧ (∀ b ∈ fp, H' b = none) ∧ W i n H') ?_ m0 ⟨0, HL, IE, stE, nfp, w0⟩
    rintro n s5 ⟨i, H5, I5, st5, n5, w5⟩
    rcases turn i n H5 w5 with ⟨stop, qq⟩ | ⟨go, N, hN', step⟩
    · refine thnF (T.done (X.blk sL HL scope ce fp) rfl rfl rfl hc i [] s5 _ H5 (fun _ _ => False) I5 (stat I5 n5) st5 stop) fun r s6 ⟨hr, I6⟩ => ?_
      subst hr
      have I7 : Inv X pins σ H5 s6 := IL.call' (ch := fp) I6.os I6.base I6.hok I6.bare fun b hb => ⟨(fL b hb).1.2.2.2.1, (fL b hb).1.2.1, (fL b hb).1.2.2.2.2.1, (fL b hb).1.2.2.2.2.2⟩
      have nC : H5 sL.heap.objs.size = none := by
        have z : H5 ce.locals = none := I6.free
        rwa [cL] at z
      obtain ⟨m, hn, _⟩ := I6.loc
      have hn : s6.heap.Ns ce.locals m := hn
      rw [cL] at hn
      exact fine D sL.heap.objs.size s6 m H5 I7 qq hn (IL.fpOk (Nat.le_refl _) nC)
    · refine thnF (T.item (X.blk sL HL scope ce fp) rfl rfl rfl hc i [] s5 _ H5 (fun _ _ => False) I5 (stat I5 n5) st5 go) fun r s6 ⟨u, hr, h6⟩ => ?_
      subst hr
      refine thnF h6 fun _ s7 ⟨x, H7, I7, r7, y7, st7, n7⟩ => ?_
      have I7' := I7.pinned (stat I7 n7) (T.obj _ _ st7)
      refine thnF (pg.run _ s7 _ H7 x u _ I7' r7 (step x H7 y7)) fun _ s8 ⟨σ8, H8, I8, hw8, q8⟩ => ?_
      refine thnF (pt.run _ s8 σ8 H8 _ I8 q8) fun b s9 ⟨H9, I9, q9⟩ => ?_
      have turned : ∀ {τ : L2.St} {s' : Shared} {H' : Hp}, Inv (X.blk sL HL scope ce fp) ([] ++ pinsAt fp s7.heap) τ H' s' → (wipe σ (own.map (·.2))).length = τ.length → (∀ (j : Nat) v, (wipe σ (own.map (·.2)))[j]? = some (some v) → τ[j]? = some (some v)) → N H' →
          ∃ m, m < n ∧ ∃ i H', Inv (X.blk sL HL scope ce fp) [] (wipe σ (own.map (·.2))) H' s' ∧ tn i s'.heap ∧ (∀ b ∈ fp, H' b = none) ∧ W i m H' := fun {τ s' H'} I' hl hk nx => by
        obtain ⟨m', hm, w'⟩ := hN' H' nx
        have kept : ∀ b ∈ fp, ∀ o, s7.heap.get? b = some o → s'.heap.get? b = some o ∧ H' b = none := fun b hb o e => by
          have z := I'.pin (b, o) (List.mem_append_right _ (List.mem_append_right _ (mem_pinsAt hb e)))
          exact ⟨z.1, z.2.1⟩
        refine ⟨m', hm, i + 1, H', (I'.unpinned (pins := [])).weak hl hk, T.keep _ _ _ st7 fun b hb o e => (kept b hb o e).1, fun b hb => ?_, w'⟩
        obtain ⟨o, e, _⟩ := T.obj _ _ st7 b hb
        exact (kept b hb o e).2
      cases b with
      | false =>
        simp only [Bool.false_eq_true, if_false] at q9 ⊢
        exact turned I9 (by rw [← hw8, wipe_length]) (fun j v e => by rw [← hw8] at e; exact (wipe_some e).1) q9
      | true =>
        simp only [if_true] at q9 ⊢
        intro kk' Q' E' hk'
        obtain ⟨hl, hk⟩ := wipe_sub sub hw8
        exact pa.run _ s9 σ8 H9 N kk' Q' E' I9 q9 fun s' H' I' nx => hk' s' (turned I' hl hk nx)
  exact start_by (g := ⟨tg, src, ifs, 0⟩) rfl rfl loop (T.self X.A 0 _ _ _ stE loop)
/-- [elt for t0 in i0 .. for t3 in i3]: vs1, vs2, vs3 the names of the clauses from the second, third, fourth on -/
theorem pe_lc4 {elt t0 i0 t1 i1 t2 i2 t3 i3 : Expr} {scope : Scope} {own : List (Str × Nat)} {vs1 vs2 vs3 : List Nat} {pos : Pos} {w0 w1 w2 w3 : TI} {g0 g1 g2 g3 : TG} {te : TE} (hc : X.calm = true) (hN : X.N.Nodup) (hi : PI X t0 i0 w0) (ok : BlkOk X.N X.env.scope scope own)
    (hv1 : ∀ i ∈ vs1, i ∈ own.map (·.2)) (hv2 : ∀ i ∈ vs2, i ∈ vs1) (hv3 : ∀ i ∈ vs3, i ∈ vs2)
    (h0 : ∀ s H C cl fp, PG (bx X scope s H C cl fp) t0 g0)
    (hi1 : ∀ s H C cl fp, PI (bx X scope s H C cl fp) t1 i1 w1) (h1 : ∀ s H C cl fp, PG (bx X scope s H C cl fp) t1 g1)
    (hi2 : ∀ s H C cl fp, PI (bx X scope s H C cl fp) t2 i2 w2) (h2 : ∀ s H C cl fp, PG (bx X scope s H C cl fp) t2 g2)
    (hi3 : ∀ s H C cl fp, PI (bx X scope s H C cl fp) t3 i3 w3) (h3 : ∀ s H C cl fp, PG (bx X scope s H C cl fp) t3 g3)
    (he : ∀ s H C cl fp, PE (bx X scope s H C cl fp) elt te) (hs : ∀ x, foldedSetIterable i0 X.env x = pure x := by intro _; rfl)
    (hs1 : ∀ env x, foldedSetIterable i1 env x = pure x := by intro _ _; rfl) (hs2 : ∀ env x, foldedSetIterable i2 env x = pure x := by intro _ _; rfl) (hs3 : ∀ env x, foldedSetIterable i3 env x = pure x := by intro _ _; rfl) :
    PE X (.ListComp elt [⟨t0, i0, [], 0⟩, ⟨t1, i1, [], 0⟩, ⟨t2, i2, [], 0⟩, ⟨t3, i3, [], 0⟩] scope pos) (tLcB w0 g0 tYes (own.map (·.2)) fun D => bCl w1 g1 tYes vs1 (bCl w2 g2 tYes vs2 (bCl w3 g3 tYes vs3 (bEmit te D)))) := by
  refine ⟨fun pins s σ H Q I h => ?_⟩
  rw [eval_ListComp]
  refine lcB_core (act := fun D env => actNext (lc4 elt t0 i0 t1 i1 t2 i2 t3 i3 [] [] [] [] scope pos) 1 i1 (.ref D) env) hc hN I (fun _ _ _ => turn4_0) hs ok hv1 hi h0 (fun _ _ _ _ _ => pts_nil) (fun s H C cl fp D => ?_) h fun D C s' m H' I' q hn f => ⟨m, hn, fun h'' sb => ?_⟩
  · refine act_next rfl hc rfl (fun it => turn4_1) (hs1 _) hv2 (hi1 s H C cl fp) (h1 s H C cl fp) pts_nil ?_
    refine act_next rfl hc rfl (fun it => turn4_2) (hs2 _) hv3 (hi2 s H C cl fp) (h2 s H C cl fp) pts_nil ?_
    refine act_next rfl hc rfl (fun it => turn4_3) (hs3 _) (fun _ m => absurd m List.not_mem_nil) (hi3 s H C cl fp) (h3 s H C cl fp) pts_nil ?_
    exact act_emit rfl (he s H C cl fp)
  · obtain ⟨f0, f1, f2, f3, f4, f5⟩ := f
    exact ⟨.ref D, H', I'.turned (t' := s'.toks) (fun b o hb e => (sb.2 b hb).trans e) f0 f1 f3 f4 f5, rfl, q⟩
end
end KX

namespace KX
open PySem PySem.Spec PyProof.Rows L2
/-! ### dicts whose keys are nested tuples -/
mutual
/-- the value is the key, by what stands in the heap -/
inductive KeyAt (H : Hp) : NestedKey → V → Prop
  | none : KeyAt H .none .non
  | int (i : Int) : KeyAt H (.num i) (.int i)
  | str (x : Str) : KeyAt H (.text x) (.str x)
  | tup {a : Addr} {xs : List V} {ks : List NestedKey} (h : Tup H a xs) (t : KeyAll H ks xs) : KeyAt H (.tup ks) (.ref a)
inductive KeyAll (H : Hp) : List NestedKey → List V → Prop
  | nil : KeyAll H [] []
  | cons {k : NestedKey} {x : V} {ks : List NestedKey} {xs : List V} (a : KeyAt H k x) (t : KeyAll H ks xs) : KeyAll H (k :: ks) (x :: xs)
end
mutual
theorem KeyAt.mono {H H' : Hp} (s : ∀ a xs, Tup H a xs → Tup H' a xs) : ∀ {k : NestedKey} {x : V}, KeyAt H k x → KeyAt H' k x
  | _, _, .none => .none
  | _, _, .int i => .int i
  | _, _, .str x => .str x
  | _, _, .tup h t => .tup (s _ _ h) (KeyAll.mono s t)
theorem KeyAll.mono {H H' : Hp} (s : ∀ a xs, Tup H a xs → Tup H' a xs) : ∀ {ks : List NestedKey} {xs : List V}, KeyAll H ks xs → KeyAll H' ks xs
  | _, _, .nil => .nil
  | _, _, .cons a t => .cons (KeyAt.mono s a) (KeyAll.mono s t)
end
section
variable {X : Cx} {pins : List (Addr × Obj)} {σ : L2.St} {H : Hp} {s : Shared}
mutual
theorem key_is (I : Inv X pins σ H s) : ∀ {k : NestedKey} {x : V} {u : Value}, KeyAt H k x → RelV x u → NestedIs s.heap k u
  | _, _, u, .none, r => by
    obtain rfl : u = Value.none := r
    exact .none
  | _, _, u, .int i, r => by
    obtain ⟨t, rfl⟩ := (show ∃ t, u = Value.int i t from r)
    exact .int i t
  | _, _, u, .str x, r => by
    obtain ⟨t, rfl⟩ := (show ∃ t, u = Value.str x t from r)
    exact .text x t
  | _, _, u, @KeyAt.tup _ a xs ks h t, r => by
    obtain rfl : u = Value.ref a := r
    obtain ⟨its, rv, ⟨o, ho, hc, n, hd⟩, _⟩ := I.tuple (h.sq (K := X.K))
    exact .tup ho hc hd (keys_are I t rv)
theorem keys_are (I : Inv X pins σ H s) : ∀ {ks : List NestedKey} {xs : List V} {us : List Value}, KeyAll H ks xs → Vals xs us → NestedAll s.heap ks us
  | _, _, _, .nil, r => by cases r; exact .nil
  | _, _, _, .cons a t, r => by
    cases r with
    | cons r1 r2 => exact .cons (key_is I a r1) (keys_are I t r2)
end
end
/-- the dict's own object; the keys' tuples at these places -/
def DNo (P : Program) (w : World) (a : Addr) (xs : List (NestedKey × Addr × Value)) : HO := .ext fun h => xs.length ≤ sizeLine ∧ (a == sysModules) = false ∧
  ∃ o es ep, h.get? a = some o ∧ o.ExactDict ∧ o.data = .dict es ep ∧ es.toList = xs.map (entryOfKey (nestedKind P w)) ∧ (xs.map (·.1)).Nodup
theorem dno_ok {P : Program} {w : World} {H : Hp} {h : Heap} {a : Addr} {xs : List (NestedKey × Addr × Value)} (z : xs.length ≤ sizeLine) (low : (a == sysModules) = false) (d : h.DictOfH (nestedKind P w) a xs) : ObjOk P w H h a (DNo P w a xs) := by
  obtain ⟨o, es, ep, h1, h2, h3, h4, _, h5⟩ := d
  refine ⟨⟨z, low, o, es, ep, h1, h2, h3, h4, h5⟩, ⟨o, h1⟩, fun g1 g2 p k => ?_⟩
  obtain ⟨p1, p2, o', es', ep', q1, q2⟩ := p
  exact ⟨p1, p2, o', es', ep', k _ q1, q2⟩
/-- keys and values beside the entries -/
def KN (H : Hp) (kvs : List (NestedKey × V)) (xs : List (NestedKey × Addr × Value)) : Prop := Paired (fun p q => p.1 = q.1 ∧ (KeyAt H p.1 (.ref q.2.1) ∧ p.1.depth ≤ 8) ∧ RelV p.2 q.2.2) kvs xs
theorem KN.mono {H H' : Hp} {kvs : List (NestedKey × V)} {xs : List (NestedKey × Addr × Value)} (h : KN H kvs xs) (s : ∀ a xs, Tup H a xs → Tup H' a xs) : KN H' kvs xs :=
  Paired.mapP h fun _ _ z => ⟨z.1, ⟨KeyAt.mono s z.2.1.1, z.2.1.2⟩, z.2.2⟩
theorem KN.val {H : Hp} {kvs : List (NestedKey × V)} {xs : List (NestedKey × Addr × Value)} (h : KN H kvs xs) (k : NestedKey) : RelO (valV kvs k) ((atKey xs k).map (·.2)) := by
  unfold KN at h
  induction h with
  | nil => trivial
  | @cons p q ps qs z t ih =>
    by_cases e : p.1 = k
    · have b : atKey (q :: qs) k = some q.2 := by simp [atKey, List.find?_cons, z.1.symm.trans e]
      rw [valV_pos e, b]
      exact z.2.2
    · have b : atKey (q :: qs) k = atKey qs k := by simp [atKey, List.find?_cons, show ¬ q.1 = k from fun y => e (z.1.trans y)]
      rw [valV_neg e, b]
      exact ih
theorem KN.put {H : Hp} {kvs : List (NestedKey × V)} {xs : List (NestedKey × Addr × Value)} (h : KN H kvs xs) {k : NestedKey} {b : Addr} {y : V} {u : Value} (hb : KeyAt H k (.ref b)) (hd : k.depth ≤ 8) (ry : RelV y u) : KN H (putK kvs k y) (storedH xs k b u) := by
  have e : (kvs.any fun kv => decide (kv.1 = k)) = (atKey xs k).isSome := by rw [valV_any, (h.val k).isSome_eq, Option.isSome_map]
  unfold putK storedH
  rw [e]
  by_cases q : (atKey xs k).isSome = true
  · rw [if_pos q, if_pos q]
    clear e q
    unfold KN at h ⊢
    induction h with
    | nil => exact .nil
    | @cons p r ps qs z t ih =>
      rw [List.map_cons, List.map_cons]
      refine .cons ?_ ih
      unfold putAt
      by_cases c : p.1 = k
      · rw [if_pos c, if_pos (z.1.symm.trans c)]
        exact ⟨z.1, z.2.1, ry⟩
      · rw [if_neg c, if_neg (fun y => c (z.1.trans y))]
        exact z
  · rw [if_neg q, if_neg q]
    exact Paired.snoc h ⟨rfl, ⟨hb, hd⟩, ry⟩
theorem KN.length {H : Hp} {kvs : List (NestedKey × V)} {xs : List (NestedKey × Addr × Value)} (h : KN H kvs xs) : kvs.length = xs.length := Paired.length h
/-- a dict with such keys and values, in the order of insertion -/
def DN (P : Program) (w : World) (H : Hp) (a : Addr) (kvs : List (NestedKey × V)) : Prop := ∃ xs, H a = some (DNo P w a xs) ∧ KN H kvs xs
theorem DN.mono {P : Program} {w : World} {H H' : Hp} {a : Addr} {kvs : List (NestedKey × V)} (h : DN P w H a kvs) (k : ∀ xs, H a = some (DNo P w a xs) → H' a = some (DNo P w a xs)) (s : ∀ a xs, Tup H a xs → Tup H' a xs) : DN P w H' a kvs := by
  obtain ⟨xs, h1, h2⟩ := h
  exact ⟨xs, k _ h1, h2.mono s⟩
theorem DN.same {P : Program} {w : World} {H H' : Hp} {a : Addr} {kvs : List (NestedKey × V)} (h : DN P w H a kvs) (s : Same H H') : DN P w H' a kvs := h.mono (fun _ e => s _ _ e) fun _ _ e => e.same s
section
variable {X : Cx} {pins : List (Addr × Obj)} {σ : L2.St} {H : Hp} {s : Shared} {a b : Addr} {kvs : List (NestedKey × V)} {k : NestedKey} {A : Around} {E : Value → Shared → Prop}
theorem kn_is (I : Inv X pins σ H s) {xs : List (NestedKey × Addr × Value)} (h : KN H kvs xs) : ∀ x ∈ xs, (nestedKind X.prog X.w).is s.heap x.1 x.2.1 := by
  unfold KN at h
  induction h with
  | nil => intro x hx; cases hx
  | @cons p q ps qs y t ih =>
    intro x hx
    rcases List.mem_cons.mp hx with e | hx
    · subst e
      rw [← y.1]
      exact ⟨key_is I y.2.1.1 rfl, y.2.1.2⟩
    · exact ih x hx
theorem dn_rd (I : Inv X pins σ H s) (h : DN X.prog X.w H a kvs) : ∃ xs, H a = some (DNo X.prog X.w a xs) ∧ KN H kvs xs ∧ xs.length ≤ sizeLine ∧ (a == sysModules) = false ∧ s.heap.DictOfH (nestedKind X.prog X.w) a xs := by
  obtain ⟨xs, ha, hk⟩ := h
  obtain ⟨⟨z, low, o, es, ep, h1, h2, h3, h4, h5⟩, _, _⟩ := (show ObjOk X.prog X.w H s.heap a (DNo X.prog X.w a xs) from I.hok a _ ha)
  exact ⟨xs, ha, hk, z, low, o, es, ep, h1, h2, h3, h4, kn_is I hk, h5⟩
theorem dn_key (I : Inv X pins σ H s) (h : KeyAt H k (.ref b)) (hd : k.depth ≤ 8) : (nestedKind X.prog X.w).is s.heap k b := ⟨key_is I h rfl, hd⟩
theorem dn_room (hu : A.units + 9 < cLine) : (nestedKind X.prog X.w).room A.in1 := by
  show A.units + 1 + 8 < cLine
  omega
end
/-- {} -/
def tDNewN (P : Program) (w : World) : TE := fun _ H Q => ∀ p H', H p = none → Same H H' → DN P w H' p [] → Q (.ref p) H'
theorem pe_dnewN {X : Cx} {pos : Pos} {P : Program} {w : World} (hP : X.prog = P := by rfl) (hw : X.w = w := by rfl) : PE X (.Dict [] [] pos) (tDNewN P w) := by
  subst hP hw
  refine ⟨fun pins s σ H Q I h => ?_⟩
  have hn := I.hok.fresh (Nat.le_refl s.heap.objs.size)
  refine wpAny_Dict_empty ⟨.ref s.heap.objs.size, upd H s.heap.objs.size (DNo X.prog X.w s.heap.objs.size []), I.laid (t' := s.toks) (fun _ _ q => Heap.get?_push_of_some _ q) (Nat.le_refl _) ?_, rfl, h _ _ hn (Same.fresh hn) ⟨[], upd_same, .nil⟩⟩
  exact dno_ok (Nat.zero_le _) (beq_eq_false_iff_ne.mpr (Ne.symm (Nat.ne_of_lt I.big))) (Heap.DictOfH.new s.heap)
/-- k in d, k not in d -/
def rInN (P : Program) (w : World) (neg : Bool) : R2 := fun x y H Q => ∃ a b kvs k, x = .ref b ∧ y = .ref a ∧ DN P w H a kvs ∧ KeyAt H k (.ref b) ∧ k.depth ≤ 8 ∧ Q (.bl (if neg = true then !(valV kvs k).isSome else (valV kvs k).isSome)) H
theorem op_inN {X : Cx} {P : Program} {w : World} (hu : X.A.units + 9 < cLine) (hP : X.prog = P := by rfl) (hw : X.w = w := by rfl) : OpR X (compareOp .In) (rInN P w false) := by
  subst hP hw
  intro pins s σ H x y v u Q I rx ry h
  obtain ⟨a, b, kvs, k, rfl, rfl, d, hk, hd, q⟩ := h
  cases rx
  cases ry
  obtain ⟨xs, ha, rel, z, low, dd⟩ := dn_rd I d
  refine wpAny_in_heap (dn_room hu) (dn_key I hk hd) low dd ?_
  have e := (rel.val k).isSome_eq
  rw [Option.isSome_map] at e
  rw [← e]
  exact ⟨.bl _, H, I.tok _, rfl, q⟩
theorem op_notInN {X : Cx} {P : Program} {w : World} (hu : X.A.units + 9 < cLine) (hP : X.prog = P := by rfl) (hw : X.w = w := by rfl) : OpR X (compareOp .NotIn) (rInN P w true) := by
  subst hP hw
  intro pins s σ H x y v u Q I rx ry h
  obtain ⟨a, b, kvs, k, rfl, rfl, d, hk, hd, q⟩ := h
  cases rx
  cases ry
  obtain ⟨xs, ha, rel, z, low, dd⟩ := dn_rd I d
  refine wpAny_notIn_heap (dn_room hu) (dn_key I hk hd) low dd ?_
  have e := (rel.val k).isSome_eq
  rw [Option.isSome_map] at e
  rw [← e]
  exact ⟨.bl _, H, I.tok _, rfl, q⟩
/-- d[k] = v -/
def rSetN (P : Program) (w : World) : TSet := fun o i v H Q => ∃ a b kvs k, o = .ref a ∧ i = .ref b ∧ DN P w H a kvs ∧ KeyAt H k (.ref b) ∧ k.depth ≤ 8 ∧ kvs.length < 1000000 ∧
  ∀ H', (∀ c u, c ≠ a → H c = some u → H' c = some u) → (∀ c, H c = none → H' c = none) → DN P w H' a (putK kvs k v) → Q H'
theorem dno_tup {P : Program} {w : World} {H : Hp} {a c : Addr} {xs : List (NestedKey × Addr × Value)} {ys : List V} (ha : H a = some (DNo P w a xs)) (h : Tup H c ys) (o : HO) : Tup (upd H a o) c ys := by
  have ne : c ≠ a := fun e => by
    subst e
    rcases h with h | ⟨ob, h⟩ <;> rw [ha] at h <;> cases h
  rcases h with h | ⟨ob, h⟩
  · exact .inl (by rw [upd_ne ne]; exact h)
  · exact .inr ⟨ob, by rw [upd_ne ne]; exact h⟩
theorem set_N {X : Cx} {P : Program} {w : World} (hu : X.A.units + 9 < cLine) (hP : X.prog = P := by rfl) (hw : X.w = w := by rfl) : PSet X (rSetN P w) := by
  subst hP hw
  intro pins s σ H o i v ov iv u Q I ro ri rv h
  obtain ⟨a, b, kvs, k, rfl, rfl, d, hk, hd, hl, q⟩ := h
  cases ro
  cases ri
  obtain ⟨xs, ha, rel, z, low, dd⟩ := dn_rd I d
  refine wpAny_setItem_heap (hsz := z) (dn_room hu) (dn_key I hk hd) dd fun h' dd' hs => ?_
  have rel' := rel.put hk hd rv
  have hl' : (storedH xs k b u).length ≤ sizeLine := by
    have h1 := length_putK kvs k v
    have h2 := rel'.length
    have h3 : sizeLine = 16777216 := by decide
    omega
  have he : ∃ c, h'.get? a = some c := let ⟨c, _, _, hc, _⟩ := dd'; ⟨c, hc⟩
  refine ⟨upd H a (DNo X.prog X.w a (storedH xs k b u)), d_write I (by rw [ha]; exact True.intro) hs he (dno_ok hl' low dd'), q _ (fun c y ne e => by rw [upd_ne ne]; exact e) (fun c e => ?_) ⟨_, upd_same, rel'.mono fun c ys e => dno_tup ha e _⟩⟩
  rw [upd_ne (fun y => by rw [y, ha] at e; cases e)]
  exact e
/-- d.get(k), d.get(k, x) -/
def tNGet1 (P : Program) (w : World) (td ty : TE) : TE := fun σ H Q => td σ H fun x H1 => ∃ a kvs0, x = .ref a ∧ DN P w H1 a kvs0 ∧ ty σ H1 fun y H2 => ∃ b kvs k, y = .ref b ∧ DN P w H2 a kvs ∧ KeyAt H2 k (.ref b) ∧ k.depth ≤ 8 ∧ Q ((valV kvs k).getD .non) H2
def tNGet2 (P : Program) (w : World) (td ty tx : TE) : TE := fun σ H Q => td σ H fun x H1 => ∃ a kvs0, x = .ref a ∧ DN P w H1 a kvs0 ∧ ty σ H1 fun y H2 => tx σ H2 fun z H3 => ∃ b kvs k, y = .ref b ∧ DN P w H3 a kvs ∧ KeyAt H3 k (.ref b) ∧ k.depth ≤ 8 ∧ Q ((valV kvs k).getD z) H3
section
variable {X : Cx} {P : Program} {w : World} {o e f : Expr} {apos cpos : Pos} {td ty tx : TE}
theorem dn_type {pins : List (Addr × Obj)} {σ : L2.St} {H : Hp} {s : Shared} {a : Addr} {kvs : List (NestedKey × V)} (I : Inv X pins σ H s) (d : DN X.prog X.w H a kvs) : s.TypeIs (.ref a) "dict" ∧ ∀ b, Value.ref a = .ref b → ∃ ob, s.heap.get? b = some ob ∧ ob.dict = none := by
  obtain ⟨xs, _, _, _, _, dd⟩ := dn_rd I d
  refine ⟨dd.typeIs, fun b q => ?_⟩
  cases q
  obtain ⟨ob, _, _, h1, h2, _⟩ := dd
  exact ⟨ob, h1, h2.2.1⟩
theorem pe_nget1 (hu : X.A.units + 9 < cLine) (ho : PE X o td) (he : PE X e ty) (m : M1 X o "get" apos e cpos) (hP : X.prog = P := by rfl) (hw : X.w = w := by rfl) : PE X (.Call (.Attribute o "get" apos) [e] [] cpos) (tNGet1 P w td ty) := by
  subst hP hw
  refine ⟨fun pins s σ H Q I h => ?_⟩
  refine wpAny_Call_method m.base m.few m.line PySem.F.plainAttrs_dict PySem.F.slot_dict_get PySem.F.type_dict_get (thn (ho.run pins s σ H _ I h) fun u s1 z1 => ?_)
  obtain ⟨x, H1, I1, rx, a, kvs0, rfl, d0, q1⟩ := z1
  cases rx
  obtain ⟨t1, t2⟩ := dn_type I1 d0
  refine ⟨t1, t2, ?_⟩
  rw [m.trees]
  refine Calls.callWith_builtin rfl (Calls.evalArgs_plain (Calls.spliced_cons (thn (he.run pins s1 σ H1 _ I1 q1) fun iv s2 z2 => Calls.spliced_nil ?_)))
  obtain ⟨y, H2, I2, ry, b, kvs, k, rfl, d, hk, hd, q2⟩ := z2
  cases ry
  obtain ⟨xs, ha, rel, _, low, dd⟩ := dn_rd I2 d
  refine call_meetsIn PySem.F.slot_dict_get dd.typeIs PySem.F.entry_dict_get (PySem.F.args_dict_get_2 _ _) (meetsH_dict_get (nestedKind X.prog X.w) a b low) ⟨dn_room hu, k, xs, dn_key I2 hk hd, dd, ?_⟩
  exact ⟨_, H2, I2.tok _, (rel.val k).getD (d := .non) (d' := Value.none) rfl, q2⟩
theorem pe_nget2 (hu : X.A.units + 9 < cLine) (ho : PE X o td) (he : PE X e ty) (hf : PE X f tx) (m : M2 X o "get" apos e f cpos) (hP : X.prog = P := by rfl) (hw : X.w = w := by rfl) : PE X (.Call (.Attribute o "get" apos) [e, f] [] cpos) (tNGet2 P w td ty tx) := by
  subst hP hw
  refine ⟨fun pins s σ H Q I h => ?_⟩
  refine wpAny_Call_method m.base m.few m.line PySem.F.plainAttrs_dict PySem.F.slot_dict_get PySem.F.type_dict_get (thn (ho.run pins s σ H _ I h) fun u s1 z1 => ?_)
  obtain ⟨x, H1, I1, rx, a, kvs0, rfl, d0, q1⟩ := z1
  cases rx
  obtain ⟨t1, t2⟩ := dn_type I1 d0
  refine ⟨t1, t2, ?_⟩
  rw [m.trees]
  refine Calls.callWith_builtin rfl (Calls.evalArgs_plain (Calls.spliced_cons (thn (he.run pins s1 σ H1 _ I1 q1) fun iv s2 z2 => ?_)))
  obtain ⟨y, H2, I2, ry, q2⟩ := z2
  refine Calls.spliced_cons (thn (hf.run pins s2 σ H2 _ I2 q2) fun fv s3 z3 => Calls.spliced_nil ?_)
  obtain ⟨z, H3, I3, rz, b, kvs, k, rfl, d, hk, hd, q3⟩ := z3
  cases ry
  obtain ⟨xs, ha, rel, _, low, dd⟩ := dn_rd I3 d
  refine call_meetsIn PySem.F.slot_dict_get dd.typeIs PySem.F.entry_dict_get (PySem.F.args_dict_get_3 _ _ _) (meetsH_dict_get_default (nestedKind X.prog X.w) a b low fv) ⟨dn_room hu, k, xs, dn_key I3 hk hd, dd, ?_⟩
  exact ⟨_, H3, I3.tok _, (rel.val k).getD rz, q3⟩
end
end KX

namespace KX
open PySem PySem.Spec PyProof.Rows L2
/-! ### the keys of a dict with nested tuples, sorted -/
section
variable {prog : Program} {w : World} {d : Addr} {es : Array DictEntry} {ep : Nat}
theorem raw_lt {h : Heap} (hm : h.DictRaw d es ep) : d < h.objs.size := by
  obtain ⟨o, ho, _⟩ := hm
  exact Heap.lt_size ho
theorem raw_src (lo : (d == sysModules) = false) : PySem.W.KdlSrc prog w "dict" d d es.size (fun i v => ∃ hi : i < es.size, v = es[i].key) (fun h => h.DictRaw d es ep) where
  type := fun _ hm => hm.typeIs
  there := fun _ hm => ⟨raw_lt hm, raw_lt hm⟩
  keep := fun _ _ hm hk => hm.at fun o e => hk d (.inl rfl) o e
  notList := by decide
  notTuple := by decide
  hint := fun _ _ _ _ hm hq => PySem.W.kdl_hint_dict hm.typeIs hq
  iter := fun _ _ hh hm => ⟨_, _, (fun _ _ hq => wpAny_pyIter_dict_raw lo hm hq), Walks.rawKeys hh _ d (Nat.ne_of_lt (raw_lt hm)) es ep, ⟨⟨_, Heap.get?_push_size _ rfl, rfl, rfl⟩, hm.at fun o e => Heap.get?_push_of_some _ e⟩⟩
end
section
variable {prog : Program} {w : World} {A : Around} {E : Value → Shared → Prop} {s : Shared} {d : Addr} {es : Array DictEntry} {ep : Nat}
/-- what stands when the keys are taken -/
structure Taken (s : Shared) (n : Nat) (P : Nat → Value → Prop) (q : Result) (s' : Shared) (acc : Array Value) (c : Nat) : Prop where
  q : q = .ok (.ret (.ref s.heap.objs.size))
  eq : s' = { s with heap := s'.heap, toks := s'.toks }
  old : ∀ b o, s.heap.get? b = some o → s'.heap.get? b = some o
  at' : s'.heap.get? s.heap.objs.size = some { cls := .type "list", dict := none, data := .seq acc c, slots := #[] }
  items : ItemsOf P acc n
theorem collect_raw {R : List Value → Shared → Prop} (lo : (d == sysModules) = false) (hh : A.handled = none) (hm : s.heap.DictRaw d es ep) (hn : es.size ≤ sizeLine)
    (h : ∀ (h' : Heap) (tk : Nat) (acc : Array Value), (∀ b o, s.heap.get? b = some o → h'.get? b = some o) → s.heap.objs.size < h'.objs.size → ItemsOf (fun i v => ∃ hi : i < es.size, v = es[i].key) acc es.size → R acc.toList { s with heap := h', toks := tk }) :
    wpAny (model prog w) A (collect (.ref d)) R E s := by
  have lt := raw_lt hm
  unfold collect
  refine wpAny_bind (wpAny_runValue (codeAny_builtin entry_proto_collect' ?_))
  rw [Around.under_plainId PySem.F.plain_proto_collect _]
  show wpAny _ A.in1 (newList [] >>= fun l => again (.builtin "list.__iadd__" ⟨[l, .ref d], []⟩)) _ _ s
  refine wpAny_bind (wpAny_newObj_type ?_)
  refine wpAny_pure ⟨plainId_quiet PySem.F.plain_list_iadd _, codeAny_builtin entry_list_iadd' ?_⟩
  rw [Around.under_plainId PySem.F.plain_list_iadd _]
  obtain ⟨S, hS⟩ : ∃ S, s.heap.objs.size = S := ⟨_, rfl⟩
  have pushed : (s.heap.push { cls := .type "list", data := .seq ([] : List Value).toArray }).get? S = some { cls := .type "list", data := .seq #[] } := by rw [← hS]; exact Heap.get?_push_size _ rfl
  rw [hS]
  show wpAny _ A.in1 (Builtin.List.listExtendWith (.ref S) (.ref d) (.ref S)) _ _ _
  have ne : S ≠ d := by rw [← hS]; exact Nat.ne_of_gt lt
  have done : ∀ {q : Result} {s' : Shared} {acc : Array Value} {c : Nat}, Taken s es.size (fun i v => ∃ hi : i < es.size, v = es[i].key) q s' acc c → R acc.toList s' := fun {q s' acc c} z => by
    rw [z.eq]
    exact h _ _ acc z.old (Heap.lt_size z.at') z.items
  refine wpAny_mono (PySem.W.kdl_extend (A := A) (s := { s with heap := s.heap.push { cls := .type "list", data := .seq ([] : List Value).toArray } }) (R := fun q s' => ∃ acc c, Taken s es.size (fun i v => ∃ hi : i < es.size, v = es[i].key) q s' acc c) (raw_src lo) hh (hm.at fun o e => Heap.get?_push_of_some _ e) S ne ne (.ref S) 0 pushed
    (fun h' tk acc c hk hS' hacc => ⟨acc, c, by rw [hS], rfl, fun b o e => hk b o (by rw [← hS]; exact Nat.ne_of_lt (Heap.lt_size e)) (Heap.get?_push_of_some _ e), by rw [hS]; exact hS', hacc⟩) hn) (fun fin s' x => ?_) fun e s' x => ?_
  · cases fin with
    | done f =>
      obtain ⟨acc, c, z⟩ := x
      obtain rfl := (Except.ok.inj z.q)
      show wpAny _ A (load s.heap.objs.size >>= _) _ _ _
      exact wpAny_bind (wpAny_load z.at' (wpAny_pure (done z)))
    | again c₁ =>
      refine ⟨x.1, codeAny_mono x.2 fun q s₂ ⟨acc, c, z⟩ => ?_⟩
      obtain rfl := z.q
      show wpAny _ A (load s.heap.objs.size >>= _) _ _ _
      exact wpAny_bind (wpAny_load z.at' (wpAny_pure (done z)))
  · obtain ⟨_, _, z⟩ := x
    cases z.q
end
mutual
theorem reads_there {h : Heap} : ∀ {v : Value} {x : PyData} {as : List Addr}, Reads h v x as → ∀ a ∈ as, a < h.objs.size
  | _, _, _, .none => fun a m => absurd m List.not_mem_nil
  | _, _, _, .bool _ => fun a m => absurd m List.not_mem_nil
  | _, _, _, .int _ _ => fun a m => absurd m List.not_mem_nil
  | _, _, _, .str _ _ => fun a m => absurd m List.not_mem_nil
  | _, _, _, .list g _ _ t => fun a m => by
    rcases List.mem_cons.mp m with e | m
    · rw [e]; exact Heap.lt_size g
    · exact reads_all_there t a m
  | _, _, _, .tuple _ _ _ t => fun a m => reads_all_there t a m
  | _, _, _, .dict g _ _ t u => fun a m => by
    rcases List.mem_append.mp m with m | m
    · rcases List.mem_cons.mp m with e | m
      · rw [e]; exact Heap.lt_size g
      · exact reads_all_there t a m
    · exact reads_all_there u a m
theorem reads_all_there {h : Heap} : ∀ {vs : List Value} {xs : List PyData} {as : List Addr}, ReadsAll h vs xs as → ∀ a ∈ as, a < h.objs.size
  | _, _, _, .nil => fun a m => absurd m List.not_mem_nil
  | _, _, _, .cons t u => fun a m => by
    rcases List.mem_append.mp m with m | m
    · exact reads_there t a m
    · exact reads_all_there u a m
end
def rSortN (P : Program) (w : World) (K : PySem.W.Frag) : List V → Hp → VK → Prop := fun vs H Q => ∃ (β : Type) (enc : β → PyData) (key : β → NestedKey) (a : Addr) (kvs : List (NestedKey × V)) (bs : List β), vs = [V.ref a] ∧ DN P w H a kvs ∧ kvs.map (·.1) = bs.map key ∧ (∀ b x, KeyAt H (key b) x → Dp K H x (enc b)) ∧
  (∀ b b', PySem.W.alike (enc b) (enc b') = true) ∧ (∀ b, ∃ x r, enc b = .tuple (x :: r)) ∧ (∀ b, (enc b).depth ≤ 60) ∧
  ∀ ys p, Paired (fun y b => KeyAt H (key b) y) ys (bs.mergeSort (PySem.W.dataLe false enc)) → H p = none → Q (.ref p) (upd H p (.lst ys))
theorem kn_keys {H : Hp} {kvs : List (NestedKey × V)} {xs : List (NestedKey × Addr × Value)} {β : Type} {key : β → NestedKey} {bs : List β} (h : KN H kvs xs) (e : kvs.map (·.1) = bs.map key) : Paired (fun y b => KeyAt H (key b) y) (xs.map fun x => V.ref x.2.1) bs := by
  unfold KN at h
  induction h generalizing bs with
  | nil =>
    match bs, e with
    | [], _ => exact .nil
  | @cons p q ps qs z t ih =>
    match bs, e with
    | b :: bs, e =>
      rw [List.map_cons, List.map_cons] at e
      obtain ⟨e1, e2⟩ := List.cons.inj e
      exact .cons (by rw [← e1]; exact z.2.1.1) (ih e2)
theorem vals_keys : ∀ xs : List (NestedKey × Addr × Value), Vals (xs.map fun x => V.ref x.2.1) (xs.map fun x => Value.ref x.2.1)
  | [] => .nil
  | _ :: xs => .cons rfl (vals_keys xs)
theorem cr_sortedN {X : Cx} {P : Program} {w : World} (hc : X.calm = true) (hu : X.A.units + 64 < cLine) (hP : X.prog = P := by rfl) (hw : X.w = w := by rfl) : CallR X (.builtin "sorted") (rSortN P w X.K) := by
  subst hP hw
  intro pins s σ H vs us Q I r h
  obtain ⟨β, enc, key, a, kvs, bs, rfl, hd, hk, hdp, hal, htp, hdep, q⟩ := h
  obtain ⟨xs, ha, rel, hz, low, dd⟩ := dn_rd I hd
  rw [Vals.ref1 r]
  obtain ⟨es, ep, raw, hsz, hent⟩ := dd.raw
  have pk := kn_keys rel hk
  refine PySem.Calls.call_function_entry kind_sorted plain_sorted entry_sorted (args_sorted1 _) ?_
  unfold Builtin.«sorted»
  refine wpAny_bind (m := checkCount "sorted" 1 1 _) (wpAny_pure ?_)
  refine wpAny_bind (collect_raw (A := X.A.in1) low (I.ok.hd hc) raw (by omega) fun h' tk acc k1 k2 hacc => ?_)
  have eacc : acc.toList = xs.map fun x => Value.ref x.2.1 := by
    refine List.ext_getElem? fun j => ?_
    rw [List.getElem?_map]
    by_cases hj : j < es.size
    · obtain ⟨y, hy, e1, _⟩ := hent j hj
      have hj' : j < acc.size := by rw [hacc.1]; exact hj
      have g : acc[j]? = some acc[j] := Array.getElem?_eq_getElem hj'
      obtain ⟨_, e2⟩ := hacc.2 j _ g
      rw [hy, Array.getElem?_toList, g, e2, e1]; rfl
    · have h1 : acc.toList.length ≤ j := by rw [Array.length_toList, hacc.1]; omega
      have h2 : xs.length ≤ j := by omega
      rw [List.getElem?_eq_none h1, List.getElem?_eq_none h2]; rfl
  rw [eacc]
  generalize hits : (xs.map fun x => Value.ref x.2.1) = its at *
  have rv : Vals (xs.map fun x => V.ref x.2.1) its := by rw [← hits]; exact vals_keys xs
  have lits : its.length = xs.length := by rw [← hits, List.length_map]
  refine wpAny_bind (wpAny_newList ?_ (by rw [lits]; exact hz))
  obtain ⟨pz, pe⟩ := paired_zip pk
  have er : PySem.W.EachIs (fun u (z : V × β) => ∃ as, Reads (h'.push (seqObj "list" its.toArray 0)) u (enc z.2) as ∧ h'.objs.size ∉ as) its ((xs.map fun x => V.ref x.2.1).zip bs) := by
    refine (each_reads (F := fun y b => KeyAt H (key b) y) (enc := enc) I rv pk fun x b z => hdp b x z).mono fun u z ⟨as, r⟩ => ⟨as, PyProof.Rows.Reads.keeps (fun b o e => Heap.get?_push_of_some _ (k1 b o e)) r, fun m => ?_⟩
    have l1 := reads_there (PyProof.Rows.Reads.keeps k1 r) _ m
    exact Nat.lt_irrefl _ l1
  have ez : ((xs.map fun x => V.ref x.2.1).zip bs |>.mergeSort (PySem.W.dataLe false fun z => enc z.2)).map (·.2) = bs.mergeSort (PySem.W.dataLe false enc) := by
    rw [List.map_mergeSort (r := PySem.W.dataLe false fun z : V × β => enc z.2) (s := PySem.W.dataLe false enc) (f := fun z : V × β => z.2) (fun a _ b _ => rfl), pe]
  have ho : (h'.push (seqObj "list" its.toArray 0)).get? h'.objs.size = some (seqObj "list" its.toArray 0) := Heap.get?_push_size _ rfl
  have lp : bs.length = xs.length := by
    have := Paired.length pk
    rw [List.length_map] at this
    omega
  refine wpAny_bind (wpAny_holding (PySem.W.list_sort_data (bs := (xs.map fun x => V.ref x.2.1).zip bs) (enc := fun z => enc z.2) (R := fun u (z : V × β) => RelV z.1 u) ho (each_zip rv pk) er (PySem.W.AllAlike.of fun z z' => hal z.2 z'.2) (PySem.W.Sortable.tuples fun z => htp z.2)
    (by rw [List.length_zip, List.length_map]; omega) (fun z _ => by have := hdep z.2; show X.A.units + 1 + 1 + _ < _; omega) fun out lo eo => ?_))
  have hout := vals_each eo
  obtain ⟨ep2, hat⟩ := sortedHeap_at (vs := its) (out := out.toArray) ho
  have hold : ∀ (b : Addr) (o : Obj), s.heap.get? b = some o → (PyProof.Rows.sortedHeap (h'.push (seqObj "list" its.toArray 0)) h'.objs.size its out.toArray).get? b = some o := fun b o e => by
    have e' := k1 b o e
    have lt := Heap.lt_size e'
    exact (sortedHeap_old (Nat.ne_of_lt lt) (by show b < (h'.objs.push _).size; rw [Array.size_push]; exact Nat.lt_succ_of_lt lt)).trans (Heap.get?_push_of_some _ e')
  have pf : Paired (fun y b => KeyAt H (key b) y) ((((xs.map fun x => V.ref x.2.1).zip bs).mergeSort (PySem.W.dataLe false fun z => enc z.2)).map (·.1)) (bs.mergeSort (PySem.W.dataLe false enc)) := by
    rw [← ez]
    exact paired_of (F := fun y b => KeyAt H (key b) y) _ fun z hz => pz z ((List.mergeSort_perm _ _).mem_iff.mp hz)
  have nl : s.heap.objs.size ≤ h'.objs.size := Nat.le_of_lt k2
  refine wpAny_pure ⟨_, rfl, .ref _, upd H h'.objs.size (.lst ((((xs.map fun x => V.ref x.2.1).zip bs).mergeSort (PySem.W.dataLe false fun z => enc z.2)).map (·.1))), I.laid (t' := tk) hold nl ⟨?_, out, ep2, hout, hat⟩, rfl, q _ _ pf (I.hok.fresh nl)⟩
  rw [List.length_map, (List.mergeSort_perm _ _).length_eq, List.length_zip, List.length_map]
  omega
theorem cr_sortedNK {X : Cx} {P : Program} {w : World} {K : PySem.W.Frag} (hc : X.calm = true) (hu : X.A.units + 64 < cLine) (hK : X.K = K := by rfl) (hP : X.prog = P := by rfl) (hw : X.w = w := by rfl) : CallR X (.builtin "sorted") (rSortN P w K) := by subst hK; exact cr_sortedN hc hu hP hw
end KX

namespace KX
open PySem PySem.Spec PyProof.Rows L2
/-! ### {k: v for target in iter if ..} whose keys are nested tuples -/
theorem d_dictSetN {X : Cx} {pins : List (Addr × Obj)} {σ : L2.St} {H : Hp} {s : Shared} {E : Value → Shared → Prop} {D : Addr} {y z : V} {u r : Value} {N : Hp → Prop} {Q : Unit → Shared → Prop} (hu : X.A.units + 9 < cLine) (I : Inv X pins σ H s)
    (ry : RelV y u) (rz : RelV z r) (g : rSetN X.prog X.w (.ref D) y z H N) (h : ∀ s' H', Inv X pins σ H' s' → N H' → Q () s') : wpAny (model X.prog X.w) X.A (dictSet D u r) Q E s := by
  obtain ⟨a, b, kvs, k, e, rfl, d, hk, hd, hl, q⟩ := g
  cases e
  cases ry
  obtain ⟨xs, ha, rel, zl, low, dd⟩ := dn_rd I d
  refine wpAny_dictSet_heap (hsz := zl) (show X.A.units + 8 < cLine by omega) (dn_key I hk hd) dd fun h' dd' hs => ?_
  have rel' := rel.put hk hd rz
  have hl' : (storedH xs k b r).length ≤ sizeLine := by
    have h1 := length_putK kvs k z
    have h2 := rel'.length
    have h3 : sizeLine = 16777216 := by decide
    omega
  have he : ∃ c, h'.get? D = some c := let ⟨c, _, _, hc, _⟩ := dd'; ⟨c, hc⟩
  refine h _ (upd H D (DNo X.prog X.w D (storedH xs k b r))) (d_write I (by rw [ha]; exact True.intro) hs he (dno_ok hl' low dd')) (q _ (fun c y ne e => by rw [upd_ne ne]; exact e) (fun c e => ?_) ⟨_, upd_same, rel'.mono fun c ys e => dno_tup ha e _⟩)
  rw [upd_ne (fun y => by rw [y, ha] at e; cases e)]
  exact e
/-- D: the new dict -/
def tDcN (P : Program) (w : World) (wi : TI) (g : TG) (tt : TT) (tk tv : TE) (vs : List Nat) : TE := fun σ H Q => wi σ H fun J H1 => ∀ D H2, H1 D = none → Same H1 H2 → DN P w H2 D [] → ∃ W : Nat → Nat → Hp → Prop, (∃ m, W 0 m H2) ∧ ∀ i m H, W i m H →
  (J.stop i H ∧ Q (.ref D) H) ∨ (J.go i H ∧ ∃ N : Hp → Prop, (∀ H', N H' → ∃ m', m' < m ∧ W (i + 1) m' H') ∧ ∀ x H', J.yld i H x H' → g x (wipe σ vs) H' fun σ2 H2 => wipe σ2 vs = wipe σ vs ∧ tt σ2 H2 fun b H3 => if b = true then tk σ2 H3 fun y H4 => tv σ2 H4 fun z H5 => rSetN P w (.ref D) y z H5 N else N H3)
section
variable {X : Cx}
theorem dcN_core {pins : List (Addr × Obj)} {s : Shared} {σ : L2.St} {H : Hp} {Q : VK} {kx vx tg src : Expr} {ifs : List Expr} {scope : Scope} {own : List (Str × Nat)} {pos : Pos} {wi : TI} {g : TG} {tt : TT} {tk tv : TE} {pos' : Pos} {use : Option (Value → Sem Unit)} {Qf : Value → Shared → Prop} (hc : X.calm = true) (hu : X.A.units + 9 < cLine) (hN : X.N.Nodup) (hi : PI X tg src wi) (ok : BlkOk X.N X.env.scope scope own)
    (hg : ∀ s H C cl fp, PG (bx X scope s H C cl fp) tg g) (ht : ∀ s H C cl fp, PTs (bx X scope s H C cl fp) ifs tt) (hk : ∀ s H C cl fp, PE (bx X scope s H C cl fp) kx tk) (hv : ∀ s H C cl fp, PE (bx X scope s H C cl fp) vx tv)
    (I : Inv X pins σ H s) (hs : ∀ x, foldedSetIterable src X.env x = pure x) (h : tDcN X.prog X.w wi g tt tk tv (own.map (·.2)) σ H Q)
    (fine : ∀ D C s' m H', Inv X pins σ H' s' → Q (.ref D) H' → s'.heap.Ns C m → FpOk X pins H' C → compPost (model X.prog X.w) X.A X.xe use Qf (.ref D) C (.ok .next) s') :
    wpAny (model X.prog X.w) X.A (comprehension (.DictComp kx vx [⟨tg, src, ifs, 0⟩] scope pos) scope X.env pos' newDict false (eval src X.env) use) Qf X.xe s := by
  have cells : ∀ y ∈ scope.names, y.2 = .free → ∃ c, X.env.cells.lookup y.1 = some c := fun y hy e => (ok.free y hy e).elim (fun k => I.ok.has _ (.inl k)) fun k => I.ok.has _ (.inr k)
  refine wpAny_comprehension_free (use := use) rfl hs (closure_ok cells) ok.kind (fun y hy e => by rw [ok.uniq y hy, e]) (thn (hi.run pins s σ H _ I h) fun xv sA hx => thn hx fun itv sB hB => ?_)
  obtain ⟨it, fp, tn, J, HB, rfl, IB, T, stB, fB, q⟩ := hB
  refine wpAny_newObj_type (newEnv_comp ?_)
  obtain ⟨D, hD⟩ : ∃ D, sB.heap.objs.size = D := ⟨_, rfl⟩
  have hDn : HB D = none := IB.hok.fresh (Nat.le_of_eq hD)
  obtain ⟨W, ⟨m0, w0⟩, turn⟩ := q D (upd HB D (DNo X.prog X.w D [])) hDn (Same.fresh hDn) ⟨[], upd_same, .nil⟩
  rw [hD]
  obtain ⟨sL, hsL⟩ : ∃ sL : Shared, ({ sB with heap := sB.heap.push { cls := .type "dict", data := .dict #[] } } : Shared) = sL := ⟨_, rfl⟩
  have hL : sL.heap = sB.heap.push { cls := .type "dict", data := .dict #[] } := by rw [← hsL]
  have IL : Inv X pins σ (upd HB D (DNo X.prog X.w D [])) sL := by
    rw [← hsL]
    refine IB.laid (t' := sB.toks) (fun b o e => Heap.get?_push_of_some _ e) (Nat.le_of_eq hD) ?_
    rw [← hD]
    exact dno_ok (Nat.zero_le _) (beq_eq_false_iff_ne.mpr (Ne.symm (Nat.ne_of_lt IB.big))) (Heap.DictOfH.new sB.heap)
  have lt : ∀ b ∈ fp, b < sB.heap.objs.size := fun b hb => by
    obtain ⟨o, e, _⟩ := T.obj _ _ stB b hb
    exact Heap.lt_size e
  have fL : ∀ b ∈ fp, FpOk X pins (upd HB D (DNo X.prog X.w D [])) b ∧ b < sL.heap.objs.size := fun b hb => by
    have l := lt b hb
    refine ⟨⟨?_, (fB b hb).2⟩, by rw [hL, Heap.size_push]; exact Nat.lt_succ_of_lt l⟩
    rw [upd_ne (by rw [← hD]; exact Nat.ne_of_lt l)]
    exact (fB b hb).1
  have stL : tn 0 sL.heap := T.keep _ _ _ stB fun b _ o e => by rw [hL]; exact Heap.get?_push_of_some _ e
  have IE := block_start IL ok hN fL
  generalize hHL : upd HB D (DNo X.prog X.w D []) = HL at IL IE w0 fL
  have pg : PG (X.blk sL HL scope (compEnvC scope (cellsFrom (sL.heap.objs.size + 1) scope.names (cloFrom X.env.cells scope.names [])) sL.heap.objs.size X.env) fp) tg g := hg sL HL sL.heap.objs.size (cellsFrom (sL.heap.objs.size + 1) scope.names (cloFrom X.env.cells scope.names [])) fp
  have pt : PTs (X.blk sL HL scope (compEnvC scope (cellsFrom (sL.heap.objs.size + 1) scope.names (cloFrom X.env.cells scope.names [])) sL.heap.objs.size X.env) fp) ifs tt := ht sL HL sL.heap.objs.size (cellsFrom (sL.heap.objs.size + 1) scope.names (cloFrom X.env.cells scope.names [])) fp
  have pk : PE (X.blk sL HL scope (compEnvC scope (cellsFrom (sL.heap.objs.size + 1) scope.names (cloFrom X.env.cells scope.names [])) sL.heap.objs.size X.env) fp) kx tk := hk sL HL sL.heap.objs.size (cellsFrom (sL.heap.objs.size + 1) scope.names (cloFrom X.env.cells scope.names [])) fp
  have pv : PE (X.blk sL HL scope (compEnvC scope (cellsFrom (sL.heap.objs.size + 1) scope.names (cloFrom X.env.cells scope.names [])) sL.heap.objs.size X.env) fp) vx tv := hv sL HL sL.heap.objs.size (cellsFrom (sL.heap.objs.size + 1) scope.names (cloFrom X.env.cells scope.names [])) fp
  rw [hsL]
  show codeAny _ _ (.compStart (.DictComp kx vx [⟨tg, src, ifs, 0⟩] scope pos) 0 (.ref it) (.ref D) (compEnvC scope (cellsFrom (sL.heap.objs.size + 1) scope.names (cloFrom X.env.cells scope.names [])) sL.heap.objs.size X.env)) (compPost (model X.prog X.w) X.A X.xe use Qf (.ref D) sL.heap.objs.size) { sL with heap := pushCells (sL.heap.push { cls := .type "dict", data := .dict #[] }) scope.names }
  generalize hce : compEnvC scope (cellsFrom (sL.heap.objs.size + 1) scope.names (cloFrom X.env.cells scope.names [])) sL.heap.objs.size X.env = ce at IE pg pt pk pv ⊢
  have cL : ce.locals = sL.heap.objs.size := by subst hce; rfl
  generalize hsE : ({ sL with heap := pushCells (sL.heap.push { cls := .type "dict", data := .dict #[] }) scope.names } : Shared) = sE at IE ⊢
  have stE : tn 0 sE.heap := T.keep _ _ _ stL fun b _ o e => by rw [← hsE]; exact pushCells_keeps _ _ _ _ (Heap.get?_push_of_some _ e)
  have nfp : ∀ b ∈ fp, HL b = none := fun b hb => (fL b hb).1.1
  have stat : ∀ {σ' : L2.St} {H' : Hp} {s' : Shared}, Inv (X.blk sL HL scope ce fp) [] σ' H' s' → (∀ b ∈ fp, H' b = none) → ∀ b ∈ fp, FpOk (X.blk sL HL scope ce fp) [] H' b := fun {σ' H' s'} I' n b hb =>
    ⟨n b hb, (I'.ok.exf b hb).1, I'.ok.exfs b hb, .inl hb, fun x c e => (I'.ok.exf b hb).2 x c e, fun p hp => absurd (show p ∈ ([] : List (Addr × Obj)) ++ [] from hp) (by simp)⟩
  have loop : codeAny (model X.prog X.w) X.A (.compLoop (.DictComp kx vx [⟨tg, src, ifs, 0⟩] scope pos) 0 (.ref it) (.ref D) ce) (compPost (model X.prog X.w) X.A X.xe use Qf (.ref D) sL.heap.objs.size) sE := by
    refine compLoop_anyD (fun n s' => ∃ i H', Inv (X.blk sL HL scope ce fp) [] (wipe σ (own.map (·.2))) H' s' ∧ tn i s'.heap ∧ (∀ b ∈ fp, H' b = none) ∧ W i n H') ?_ m0 ⟨0, HL, IE, stE, nfp, w0⟩
    rintro n s5 ⟨i, H5, I5, st5, n5, w5⟩
    rcases turn i n H5 w5 with ⟨stop, qq⟩ | ⟨go, N, hN', step⟩
    · refine thnF (T.done (X.blk sL HL scope ce fp) rfl rfl rfl hc i [] s5 _ H5 (fun _ _ => False) I5 (stat I5 n5) st5 stop) fun r s6 ⟨hr, I6⟩ => ?_
      subst hr
      have I7 : Inv X pins σ H5 s6 := IL.call' (ch := fp) I6.os I6.base I6.hok I6.bare fun b hb => ⟨(fL b hb).1.2.2.2.1, (fL b hb).1.2.1, (fL b hb).1.2.2.2.2.1, (fL b hb).1.2.2.2.2.2⟩
      have nC : H5 sL.heap.objs.size = none := by
        have z : H5 ce.locals = none := I6.free
        rwa [cL] at z
      obtain ⟨m, hn, _⟩ := I6.loc
      have hn : s6.heap.Ns ce.locals m := hn
      rw [cL] at hn
      exact fine D sL.heap.objs.size s6 m H5 I7 qq hn (IL.fpOk (Nat.le_refl _) nC)
    · refine thnF (T.item (X.blk sL HL scope ce fp) rfl rfl rfl hc i [] s5 _ H5 (fun _ _ => False) I5 (stat I5 n5) st5 go) fun r s6 ⟨u, hr, h6⟩ => ?_
      subst hr
      refine thnF h6 fun _ s7 ⟨x, H7, I7, r7, y7, st7, n7⟩ => ?_
      have I7' := I7.pinned (stat I7 n7) (T.obj _ _ st7)
      refine thnF (pg.run _ s7 _ H7 x u _ I7' r7 (step x H7 y7)) fun _ s8 ⟨σ8, H8, I8, hw8, q8⟩ => ?_
      refine thnF (pt.run _ s8 σ8 H8 _ I8 q8) fun b s9 ⟨H9, I9, q9⟩ => ?_
      have turned : ∀ {s' : Shared} {H' : Hp}, Inv (X.blk sL HL scope ce fp) ([] ++ pinsAt fp s7.heap) σ8 H' s' → N H' → ∃ m, m < n ∧ ∃ i H', Inv (X.blk sL HL scope ce fp) [] (wipe σ (own.map (·.2))) H' s' ∧ tn i s'.heap ∧ (∀ b ∈ fp, H' b = none) ∧ W i m H' := fun {s' H'} I' nx => by
        obtain ⟨m', hm, w'⟩ := hN' H' nx
        have kept : ∀ b ∈ fp, ∀ o, s7.heap.get? b = some o → s'.heap.get? b = some o ∧ H' b = none := fun b hb o e => by
          have z := I'.pin (b, o) (List.mem_append_right _ (List.mem_append_right _ (mem_pinsAt hb e)))
          exact ⟨z.1, z.2.1⟩
        refine ⟨m', hm, i + 1, H', (I'.unpinned (pins := [])).weak (by rw [← hw8, wipe_length]) (fun j v e => by rw [← hw8] at e; exact (wipe_some e).1), T.keep _ _ _ st7 fun b hb o e => (kept b hb o e).1, fun b hb => ?_, w'⟩
        obtain ⟨o, e, _⟩ := T.obj _ _ st7 b hb
        exact (kept b hb o e).2
      cases b with
      | false =>
        simp only [Bool.false_eq_true, if_false] at q9 ⊢
        exact turned I9 q9
      | true =>
        simp only [if_true] at q9 ⊢
        refine thnF (pk.run _ s9 σ8 H9 _ I9 q9) fun kv s10 ⟨y, H10, I10, r10, q10⟩ => ?_
        refine thnF (pv.run _ s10 σ8 H10 _ I10 q10) fun vv s11 ⟨z, H11, I11, r11, q11⟩ => ?_
        exact d_dictSetN (X := X.blk sL HL scope ce fp) hu I11 r10 r11 q11 fun s12 H12 I12 nx => turned I12 nx
  exact codeAny_compStart_dict loop (T.self X.A 0 _ _ _ stE loop)
theorem pe_dcN {kx vx tg src : Expr} {ifs : List Expr} {scope : Scope} {own : List (Str × Nat)} {pos : Pos} {wi : TI} {g : TG} {tt : TT} {tk tv : TE} {P : Program} {w : World} (hc : X.calm = true) (hu : X.A.units + 9 < cLine) (hN : X.N.Nodup) (hi : PI X tg src wi) (ok : BlkOk X.N X.env.scope scope own)
    (hg : ∀ s H C cl fp, PG (bx X scope s H C cl fp) tg g) (ht : ∀ s H C cl fp, PTs (bx X scope s H C cl fp) ifs tt) (hk : ∀ s H C cl fp, PE (bx X scope s H C cl fp) kx tk) (hv : ∀ s H C cl fp, PE (bx X scope s H C cl fp) vx tv)
    (hs : ∀ x, foldedSetIterable src X.env x = pure x := by intro _; rfl) (hP : X.prog = P := by rfl) (hw : X.w = w := by rfl) :
    PE X (.DictComp kx vx [⟨tg, src, ifs, 0⟩] scope pos) (tDcN P w wi g tt tk tv (own.map (·.2))) := by
  subst hP hw
  refine ⟨fun pins s σ H Q I h => ?_⟩
  rw [arm_eval_DictComp]
  refine dcN_core hc hu hN hi ok hg ht hk hv I hs h fun D C s' m H' I' q hn f => ⟨m, hn, fun h'' sb => ?_⟩
  obtain ⟨f0, f1, f2, f3, f4, f5⟩ := f
  exact ⟨.ref D, H', I'.turned (t' := s'.toks) (fun b o hb e => (sb.2 b hb).trans e) f0 f1 f3 f4 f5, rfl, q⟩
theorem ps_setDcN {i : Nat} {y : Str} {py spos : Pos} {kx vx tg src : Expr} {ifs : List Expr} {scope : Scope} {own : List (Str × Nat)} {pos : Pos} {wi : TI} {g : TG} {tt : TT} {tk tv : TE} {P : Program} {w : World} (hc : X.calm = true) (hu : X.A.units + 9 < cLine) (hN : X.N.Nodup) (hy : X.N[i]? = some y) (hyl : X.env.scope.names.lookup y = some .local) (hsw : swapsWith (.DictComp kx vx [⟨tg, src, ifs, 0⟩] scope pos) (some (.Name y py)) spos.line X.env = pure true) (hi : PI X tg src wi) (ok : BlkOk X.N X.env.scope scope own)
    (hg : ∀ s H C cl fp, PG (bx X scope s H C cl fp) tg g) (ht : ∀ s H C cl fp, PTs (bx X scope s H C cl fp) ifs tt) (hk : ∀ s H C cl fp, PE (bx X scope s H C cl fp) kx tk) (hv : ∀ s H C cl fp, PE (bx X scope s H C cl fp) vx tv)
    (hs : ∀ x, foldedSetIterable src X.env x = pure x := by intro _; rfl) (hP : X.prog = P := by rfl) (hw : X.w = w := by rfl) :
    PS X (.Assign [.Name y py] (.DictComp kx vx [⟨tg, src, ifs, 0⟩] scope pos) spos) (tAsg (tDcN P w wi g tt tk tv (own.map (·.2))) (gName i)) := by
  subst hP hw
  refine ⟨fun pins s σ H D I h => ?_⟩
  rw [exec_Assign_Name_used _ _ _ _ hsw]
  refine wpAny_bind (wpAny_standAt (wpAny_bind ?_))
  show wpAny _ X.A (do let _ ← comprehension (.DictComp kx vx [⟨tg, src, ifs, 0⟩] scope pos) scope X.env (firstIterPos [⟨tg, src, ifs, 0⟩] pos) newDict false (eval src X.env) (some (assign (.Name y py) X.env))) _ _ s
  have h : tDcN X.prog X.w wi g tt tk tv (own.map (·.2)) σ H (fun x H1 => gName i x σ H1 D.nx) := h
  refine wpAny_bind (thn (dcN_core (Qf := fun _ s' => SP X pins D .next s') hc hu hN hi ok hg ht hk hv I hs h fun L C s' m H' I' q hn f => ?_) fun _ s' hq => wpAny_pure (wpAny_pure hq))
  show wpAny _ _ (assign (.Name y py) X.env (.ref L)) _ _ _
  refine wpAny_assign_Name (store_ok2 (v := V.ref L) I' hN hy (.inl hyl) rfl (fun s2 I2 ⟨a, sb, ha⟩ => ?_) (.inr hyl))
  obtain ⟨f0, f1, f2, f3, f4, f5⟩ := f
  have haC : C ≠ a := ha.elim (fun z => by rw [z]; exact f1) fun z e => f4 y a z e.symm
  exact ⟨m, hn.sameBut sb haC, fun h3 sb3 => ⟨_, H', I2.turned (t' := s2.toks) (fun b o hb e => (sb3.2 b hb).trans e) f0 f1 f3 f4 f5, q⟩⟩
theorem sw_trueD {kx vx : Expr} {gs : List Comprehension} {scope : Scope} {pos py : Pos} {y : Str} {l : Nat} {env : Env} (hk : env.scope.kind = .function) (hy : env.scope.names.lookup y = some .local) (hl : (py.line == pos.line) = true)
    (ha : (scope.names.any fun (n, k) => n == y && (k == .local || k == .cell)) = false) : swapsWith (.DictComp kx vx gs scope pos) (some (.Name y py)) l env = pure true := by
  have ky : env.kindOf y = some .local := hy
  have hb : env.blockKind = .function := by unfold Env.blockKind; rw [hk]; rfl
  unfold swapsWith
  simp only [hb, ky, ha, Expr.pos, hl]
  rfl
end
end KX

namespace KX
open PySem PySem.Spec PyProof.Rows L2
theorem Room.u9 {k : Nat} {A : Around} (r : Room k A) : A.units + 9 < cLine := by have := r.un; omega
theorem Room.u64 {k : Nat} {A : Around} (r : Room k A) : A.units + 64 < cLine := by have := r.un; omega
/-! ### max(list or tuple, default=d) of whole numbers -/
def rMaxDefB (K : PySem.W.Frag) : List V → List V → Hp → VK → Prop := fun vs zs H Q => ∃ (a : Addr) (ns : List Int) (d : Int), vs = [V.ref a] ∧ zs = [V.int d] ∧ (SqL K H a (ns.map V.int) ∨ SqT K H a (ns.map V.int)) ∧ Q (.int (mostI d ns)) H
theorem depth_ints (l : List Int) : PyData.depthAll (l.map PyData.int) ≤ 1 := by
  induction l with
  | nil => decide
  | cons n l ih =>
    show max (PyData.depth (.int n)) (PyData.depthAll (l.map PyData.int)) ≤ 1
    have h1 : PyData.depth (.int n) = 0 := rfl
    rw [h1]; omega
theorem cr_maxDefB {X : Cx} (hc : X.calm = true) (hu : X.A.units + 64 < cLine) : CallRK X (.builtin "max") [Str.ofString "default"] (rMaxDefB X.K) := by
  intro pins s σ H xs zs us ws Q I r rz h
  obtain ⟨a, ns, d, e1, e2, hs | hs, q⟩ := h
  · exact cr_maxDef hc hu pins s σ H xs zs us ws Q I r rz ⟨a, ns, d, e1, e2, hs, q⟩
  · subst e1 e2
    obtain ⟨its, rv, ht, hz⟩ := I.tuple hs
    rw [Vals.ref1 r]
    obtain ⟨wv, rfl, rb⟩ := rz.one
    obtain ⟨t, rfl⟩ := rb
    have hi := rv.ints
    have hd := depth_ints ns
    refine PySem.W.max_tuple_default (xs := ns.map PyData.int) (as := []) (I.ok.hd hc) ht (by simpa using hi.reads s.heap) ⟨?_, ?_⟩ (by omega) ?_ ?_
    · intro x hx y hy
      obtain ⟨i, _, rfl⟩ := List.mem_map.mp hx
      obtain ⟨j, _, rfl⟩ := List.mem_map.mp hy
      rfl
    · intro x hx
      obtain ⟨i, _, rfl⟩ := List.mem_map.mp hx
      intro e; cases e
    · intro e h' tk hk
      have e2 : ns = [] := List.map_eq_nil_iff.mp e
      subst e2
      exact ⟨.int _, H, I.kept hk, ⟨_, rfl⟩, q⟩
    · intro y ys i v h' tk bs e hv hr hk
      match ns, e with
      | n :: ns, e =>
        obtain ⟨rfl, rfl⟩ := List.cons.inj e
        rw [PySem.W.maxD_ints] at hr
        cases hr
        exact ⟨.int _, H, I.kept hk, ⟨_, rfl⟩, q⟩
theorem cr_maxDefBK {X : Cx} {K : PySem.W.Frag} (hc : X.calm = true) (hu : X.A.units + 64 < cLine) (hK : X.K = K := by rfl) : CallRK X (.builtin "max") [Str.ofString "default"] (rMaxDefB K) := by subst hK; exact cr_maxDefB hc hu
theorem rd_maxDefB {K : PySem.W.Frag} {a : Addr} {ns : List Int} {d : Int} {H : Hp} {Q : VK} (hs : SqL K H a (ns.map V.int) ∨ SqT K H a (ns.map V.int)) (q : Q (.int (mostI d ns)) H) : rMaxDefB K [.ref a] [.int d] H Q := ⟨a, ns, d, rfl, rfl, hs, q⟩
theorem most_lt {d k : Int} {ns : List Int} (hd : d < k) : mostI d ns < k ↔ ∀ n ∈ ns, n < k := by
  cases ns with
  | nil => exact ⟨fun _ n h => absurd h List.not_mem_nil, fun _ => hd⟩
  | cons x xs =>
    obtain ⟨h1, h2⟩ := foldmax xs x
    show xs.foldl max x < k ↔ _
    exact ⟨fun h n hn => Int.lt_of_le_of_lt (h2 n hn) h, fun h => h _ h1⟩
/-! ### {x: True for x in a tuple of keys} -/
theorem wipe_set {σ : L2.St} {c : Nat} {x : V} : ∀ {vs : List Nat}, c ∈ vs → wipe ((wipe σ vs).set c (some x)) vs = wipe σ vs := by
  intro vs hc
  refine List.ext_getElem? fun i => ?_
  by_cases hi : i ∈ vs
  · have none_at : ∀ (τ : L2.St) (ws : List Nat), i ∈ ws → i < τ.length → (wipe τ ws)[i]? = some none := by
      intro τ ws
      induction ws with
      | nil => intro h; exact absurd h List.not_mem_nil
      | cons w ws ih =>
        intro h l
        show ((wipe τ ws).set w none)[i]? = some none
        by_cases e : w = i
        · subst e
          rw [List.getElem?_set_self (by rw [wipe_length]; exact l)]
        · rw [List.getElem?_set_ne e]
          rcases List.mem_cons.mp h with z | z
          · exact absurd z.symm e
          · exact ih z l
    by_cases l : i < σ.length
    · rw [none_at _ _ hi (by rw [List.length_set, wipe_length]; exact l), none_at _ _ hi l]
    · rw [List.getElem?_eq_none (by rw [wipe_length, List.length_set, wipe_length]; omega), List.getElem?_eq_none (by rw [wipe_length]; omega)]
  · rw [wipe_out hi, List.getElem?_set_ne (fun z => hi (by rw [← z]; exact hc))]
theorem putK_mem {kvs : List (NestedKey × V)} {ks : List NestedKey} {k : NestedKey} {v : V} (h : ∀ j, (valV kvs j).isSome = decide (j ∈ ks)) (j : NestedKey) : (valV (putK kvs k v) j).isSome = decide (j ∈ ks ++ [k]) := by
  rw [valV_put]
  by_cases e : j = k
  · rw [if_pos e, e]; simp
  · rw [if_neg e, h j]
    simp [e]
theorem paired_at {α β : Type} {F : α → β → Prop} {l : List α} {m : List β} (h : Paired F l m) : ∀ (i : Nat) (h1 : i < l.length) (h2 : i < m.length), F l[i] m[i] := by
  induction h with
  | nil => intro i h1; simp at h1
  | cons a _ ih =>
    intro i h1 h2
    cases i with
    | zero => exact a
    | succ j => exact ih j (by simpa using h1) (by simpa using h2)
theorem rd_known {P : Program} {w : World} {K : PySem.W.Frag} {ta : TE} {c : Nat} {σ : L2.St} {H : Hp} {Q : VK} {a : Addr} {xs : List V} {ks : List NestedKey} (ha : Tup H a xs) (hk : Paired (fun x k => (∃ b, x = V.ref b) ∧ KeyAt H k x ∧ k.depth ≤ 8) xs ks) (hl : xs.length < 1000000)
    (hi : ∀ R : VK, R (.ref a) H → ta σ H R) (hc : c < σ.length) (h : ∀ H' D kvs, Same H H' → DN P w H' D kvs → (∀ k, (valV kvs k).isSome = decide (k ∈ ks)) → Q (.ref D) H') :
    tDcN P w (iTup K ta) (gName c) tYes (tVar c) (tC (.bl true)) [c] σ H Q := by
  refine hi _ ⟨a, rfl, ⟨xs, ha.sq⟩, fun D H2 hD S2 hd => ?_⟩
  have ll := Paired.length hk
  refine ⟨fun i m H' => m = xs.length - i ∧ i ≤ xs.length ∧ Same H H' ∧ ∃ kvs, DN P w H' D kvs ∧ kvs.length ≤ i ∧ ∀ k, (valV kvs k).isSome = decide (k ∈ ks.take i), ⟨xs.length, rfl, Nat.zero_le _, S2, [], hd, Nat.le_refl _, fun k => by simp [valV_nil]⟩, ?_⟩
  rintro i m H3 ⟨rfl, il, S3, kvs, hd3, lk, mem⟩
  have sq : SqT K H3 a xs := (ha.same S3).sq
  by_cases lt : i < xs.length
  · have hx : xs[i]? = some xs[i] := List.getElem?_eq_getElem lt
    refine .inr ⟨⟨xs, xs[i], sq, hx⟩, fun H' => Same H H' ∧ ∃ kvs, DN P w H' D kvs ∧ kvs.length ≤ i + 1 ∧ ∀ k, (valV kvs k).isSome = decide (k ∈ ks.take (i + 1)), fun H' ⟨S, kvs, d, l, z⟩ => ⟨xs.length - (i + 1), by omega, rfl, lt, S, kvs, d, l, z⟩, fun x H4 y => ?_⟩
    obtain ⟨e, y⟩ := y
    subst e
    have y := y xs sq
    rw [hx] at y
    obtain rfl := Option.some.inj y
    refine ⟨wipe_set List.mem_cons_self, ?_⟩
    have il2 : i < ks.length := by omega
    have hk2 : ks[i]? = some ks[i] := List.getElem?_eq_getElem il2
    obtain ⟨⟨b, eb⟩, kb, dp⟩ : (∃ b, xs[i] = V.ref b) ∧ KeyAt H ks[i] xs[i] ∧ (ks[i]).depth ≤ 8 := by
      exact paired_at hk i lt il2
    refine ⟨_, by rw [List.getElem?_set_self (by rw [wipe_length]; exact hc)], ?_⟩
    refine ⟨D, b, kvs, ks[i], rfl, eb, hd3, by rw [← eb]; exact KeyAt.mono (fun _ _ t => t.same S3) kb, dp, by omega, fun H5 k1 k2 d5 => ?_⟩
    refine ⟨fun c u e => ?_, _, d5, by have := length_putK kvs ks[i] (V.bl true); omega, fun k => ?_⟩
    · refine k1 c u (fun z => ?_) (S3 _ _ e)
      rw [z, hD] at e; cases e
    · rw [putK_mem mem k, List.take_succ, hk2]; rfl
  · have e : i = xs.length := by omega
    refine .inl ⟨⟨xs, sq, by omega⟩, h H3 D kvs S3 hd3 fun k => ?_⟩
    rw [mem k, List.take_of_length_le (by omega)]
end KX

namespace KX
open PySem PySem.Spec PyProof.Rows L2
/-! ### o.m(k = v, ..) -/
def tMethK (C : Addr) (m : Str) (n : Nat) (sp : Sp) (gV : List V → List V → List V) (E : XK) (ta : TE) (tk : TA) : TE := fun σ H Q => ta σ H fun x H1 => ∃ a dx fs, x = .ref a ∧ H1 a = some (.ins C dx fs) ∧ fs.lookup m = none ∧ tk σ H1 fun zs H2 => zs.length = n ∧ sp (gV [x] zs) H2 Q E
section
variable {X : Cx} {CX : CXT} {k : Nat} {f C : Addr} {fd : FuncData} {ps ks : List Str} {sp : Sp} {E : XK} {m : Str} {o : Expr} {apos pos : Pos} {kws : List Keyword} {ta : TE} {tk : TA} {g : List Value → List Value → List Value} {gV : List V → List V → List V}
theorem pe_methK {pl : Sem Bool} (he : PE X o ta) (c : Cls X.K C) (hm : Meth X.K C m f) (F : FnOk X.prog X.w X.K X.mg X.base CX k f fd ps sp) (hr : Room k X.A) (hb : KBn X.K fd ps 1 ks g gV) (hx : Passes CX X E) (hkw : PK X kws tk)
    (hall : (backToKw pos (keywordEach kws X.env)).all (·.1.isSome) = true := by rfl) (hks : (backToKw pos (keywordEach kws X.env)).filterMap (·.1) = ks := by rfl)
    (hpl : ((backTo pos (starEach [] X.env)).any (·.1) || (backToKw pos (keywordEach kws X.env)).any (·.1.isNone)) = false := by rfl)
    (ht : eval (.Call (.Attribute o m apos) [] kws pos) X.env = (do
      let ov ← eval o X.env
      standAt apos.atName
      let (f, first) ← holding [ov] (getMethod ov m pl)
      callWith pos f first (backTo pos (starEach [] X.env)) (backToKw pos (keywordEach kws X.env))) := by rfl) :
    PE X (.Call (.Attribute o m apos) [] kws pos) (tMethK C m ks.length sp gV E ta tk) := by
  refine ⟨fun pins s σ H Q I h => ?_⟩
  refine PySem.W.methodCall_KW (pl := pl) (thn (he.run pins s σ H _ I h) fun u s1 ⟨x, H1, I1, rx, a, dx, fs, ex, ea, l, q⟩ => ?_) ht
  subst ex
  obtain rfl : u = Value.ref a := rx
  refine getmeth_ok I1 ea c hm l ?_
  refine PySem.W.callWith_KW0 (first := [.ref a]) (h₀ := X.base) I.ok.mod.kin hm.kp hall (thn (hkw.run pos pins s1 σ H1 _ I1 q) fun ws s2 hh => ?_) hpl
  obtain ⟨zs, H2, I2, rz, l2, q2⟩ := hh
  refine ⟨I2.kIn, ?_⟩
  rw [hks]
  exact run_fnN (us := [.ref a]) (vs := [.ref a]) F hr hb hx I2 (.cons rfl .nil) rz rfl l2 q2
end
theorem rd_methK {C : Addr} {m : Str} {n : Nat} {sp : Sp} {gV : List V → List V → List V} {E : XK} {ta : TE} {tk : TA} {σ : L2.St} {H : Hp} {Q : VK} (h : ta σ H fun x H1 => ∃ a dx fs, x = .ref a ∧ H1 a = some (.ins C dx fs) ∧ fs.lookup m = none ∧ tk σ H1 fun zs H2 => zs.length = n ∧ sp (gV [x] zs) H2 Q E) : tMethK C m n sp gV E ta tk σ H Q := h
end KX

namespace KX
open PySem PySem.Spec PyProof.Rows L2 StX
theorem pa_starK {X : Cx} {K : PySem.W.Frag} {e : Expr} {es : List Expr} {p : Pos} {te : TE} {t : TA} (he : PE X e te) (hr : PA X es t) (hK : X.K = K := by rfl) (hs : starEach (.Starred e p :: es) X.env = (true, eval e X.env) :: starEach es X.env := by rfl) : PA X (.Starred e p :: es) (tStar K te t) := by subst hK; exact pa_star he hr hs
theorem rd_starA {K : PySem.W.Frag} {te : TE} {t : TA} {σ : L2.St} {H : Hp} {Q : List V → Hp → Prop} (h : te σ H fun x H1 => ∃ p xs, x = V.ref p ∧ (SqT K H1 p xs ∨ SqL K H1 p xs) ∧ t σ H1 fun ys H2 => Q (xs ++ ys) H2) : tStar K te t σ H Q := h
/-! ### xs[::0 - 1] -/
theorem pe_revLB {X : Cx} {K : PySem.W.Frag} {e : Expr} {te : TE} {k k' : Nat} {p1 p1' p2 p3 pos : Pos} (he : PE X e te) (hK : X.K = K := by rfl) : PE X (.Subscript e (.Slice none none (some (.BinOp (.Constant (.int 0) k p1) .Sub (.Constant (.int 1) k' p1') p2)) p3) pos) (tRevL K te) := by
  subst hK
  refine ⟨fun pins s σ H Q I h => ?_⟩
  refine Subscript_ (thn (he.run pins s σ H _ I h) fun v s1 ⟨x, H1, I1, r1, q1⟩ => ?_)
  obtain ⟨a, xs, ex, hx, q⟩ := q1
  subst ex
  cases r1
  have hst : PO X (some (.BinOp (.Constant (.int 0) k p1) .Sub (.Constant (.int 1) k' p1') p2)) (tPart (tOp (rI0 fun i j => .int (i - j)) (tC (.int 0)) (tC (.int 1)))) := po_some (pe_op op_sub pe_int pe_int)
  refine wpAny_Slice (thn (po_none.run pins s1 σ H1 (fun o H2 => o = none ∧ H2 = H1) I1 ⟨rfl, rfl⟩) fun vl s2 ⟨l, H2, I2, pl, el, e2⟩ => ?_)
  subst el e2
  refine thn (po_none.run pins s2 σ H2 (fun o H3 => o = none ∧ H3 = H2) I2 ⟨rfl, rfl⟩) fun vu s3 ⟨u, H3, I3, pu, eu, e3⟩ => ?_
  subst eu e3
  refine thn (hst.run pins s3 σ H3 (fun o H4 => o = some (-1) ∧ H4 = H3) I3 ⟨0, 1, rfl, rfl, -1, rfl, rfl, rfl⟩) fun vs s4 ⟨o, H4, I4, ps, eo, e4⟩ => ?_
  subst eo e4
  have I5 : Inv X pins σ H4 { s4 with heap := s4.heap.push { cls := .type "slice", data := .fields #[vl, vu, vs] } } := I4.kept (t' := s4.toks) fun b ob q => Heap.get?_push_of_some _ q
  obtain ⟨its, r, ht, hz⟩ := I5.list hx
  have hlen := r.length
  show wpAny (model X.prog X.w) X.A (subscriptTail e (.Slice none none (some (.BinOp (.Constant (.int 0) k p1) .Sub (.Constant (.int 1) k' p1') p2)) p3) (.ref a) (.ref s4.heap.objs.size)) (EP X pins σ Q) X.xe { s4 with heap := s4.heap.push { cls := .type "slice", data := .fields #[vl, vu, vs] } }
  refine tail_any (ops := [.ref a, .ref s4.heap.objs.size]) ht.isList.typeIs (PySem.slot_list_getitem.lookup) ?_ (by with_unfolding_all rfl)
  refine wpAny_getItem_list_slice ht.isList (Heap.IsSliceOf.new _ vl vu vs) pl pu ps (by decide) ?_ (by rw [List.size_toArray]; omega)
  rw [PySem.W.krv_pick]
  refine ⟨.ref _, _, I5.laid (t' := s4.toks) (o := .lst xs.reverse) (fun b ob q => Heap.get?_push_of_some _ q) (Nat.le_refl _) ?_, rfl, q _ (I5.hok.fresh (Nat.le_refl _))⟩
  exact ⟨by rw [List.length_reverse]; exact hz, _, 0, r.reverse, Heap.get?_push_size _ rfl⟩
/-! ### xs.index(y) -/
theorem mt_indexDK {X : Cx} {K : PySem.W.Frag} (hu : X.A.units + 65 < cLine) (hK : X.K = K := by rfl) : MtR X "list.index" (rIndexD K) := by subst hK; exact mt_indexD hu
end KX

namespace K03
open PySem PySem.Spec PyProof.Rows L2 KX
def top (i : Nat) : Stmt :=
  PySem.Challenge.pw_handalong_k03_policies_and_their_scores.main.body.getD i (.Pass ⟨0, 0, 0, 0⟩)
theorem iteT' {A B : Prop} {c : Bool} (h : c = true) (a : A) : if c = true then A else B := by rw [if_pos h]; exact a
theorem iteF' {A B : Prop} {c : Bool} (h : c = false) (b : B) : if c = true then A else B := by rw [h]; exact iteF b
abbrev s_is_integer : Stmt := top 1
abbrev N_is_integer : List Str := ["value"]
theorem sc_is_integer : FnScope N_is_integer ["value"] (defScope s_is_integer) := ⟨rfl, rfl, rfl, by decide +kernel, rfl, by decide +kernel, by decide +kernel⟩
abbrev s_is_number : Stmt := top 2
abbrev N_is_number : List Str := ["value"]
theorem sc_is_number : FnScope N_is_number ["value"] (defScope s_is_number) := ⟨rfl, rfl, rfl, by decide +kernel, rfl, by decide +kernel, by decide +kernel⟩
abbrev s_is_below : Stmt := top 3
abbrev N_is_below : List Str := ["value", "limit"]
theorem sc_is_below : FnScope N_is_below ["value", "limit"] (defScope s_is_below) := ⟨rfl, rfl, rfl, by decide +kernel, rfl, by decide +kernel, by decide +kernel⟩
abbrev s_is_sequence : Stmt := top 4
abbrev N_is_sequence : List Str := ["value"]
theorem sc_is_sequence : FnScope N_is_sequence ["value"] (defScope s_is_sequence) := ⟨rfl, rfl, rfl, by decide +kernel, rfl, by decide +kernel, by decide +kernel⟩
abbrev s_is_tuple_of : Stmt := top 5
abbrev N_is_tuple_of : List Str := ["value", "length"]
theorem sc_is_tuple_of : FnScope N_is_tuple_of ["value", "length"] (defScope s_is_tuple_of) := ⟨rfl, rfl, rfl, by decide +kernel, rfl, by decide +kernel, by decide +kernel⟩
abbrev s_is_mode : Stmt := top 15
abbrev N_is_mode : List Str := ["value"]
theorem sc_is_mode : FnScope N_is_mode ["value"] (defScope s_is_mode) := ⟨rfl, rfl, rfl, by decide +kernel, rfl, by decide +kernel, by decide +kernel⟩
abbrev s_are_neighbours : Stmt := top 16
abbrev N_are_neighbours : List Str := ["value", "mode"]
theorem sc_are_neighbours : FnScope N_are_neighbours ["value"] (defScope s_are_neighbours) := ⟨rfl, rfl, rfl, by decide +kernel, rfl, by decide +kernel, by decide +kernel⟩
abbrev s_is_view : Stmt := top 17
abbrev N_is_view : List Str := ["value", "mode", "neighbours"]
theorem sc_is_view : FnScope N_is_view ["value"] (defScope s_is_view) := ⟨rfl, rfl, rfl, by decide +kernel, rfl, by decide +kernel, by decide +kernel⟩
abbrev s_is_view_below : Stmt := top 20
abbrev N_is_view_below : List Str := ["value", "modes", "mode", "neighbours"]
theorem sc_is_view_below : FnScope N_is_view_below ["value", "modes"] (defScope s_is_view_below) := ⟨rfl, rfl, rfl, by decide +kernel, rfl, by decide +kernel, by decide +kernel⟩
abbrev s_checked_views : Stmt := top 21
abbrev N_checked_views : List Str := ["modes", "views", "known", "at", "view"]
theorem sc_checked_views : FnScope N_checked_views ["modes", "views"] (defScope s_checked_views) := ⟨rfl, rfl, rfl, by decide +kernel, rfl, by decide +kernel, by decide +kernel⟩
abbrev s_part : Stmt := top 22
abbrev N_part : List Str := ["policy", "places", "at", "place", "view"]
theorem sc_part : FnScope N_part ["policy", "places"] (defScope s_part) := ⟨rfl, rfl, rfl, by decide +kernel, rfl, by decide +kernel, by decide +kernel⟩
abbrev s_checked_scores : Stmt := top 23
abbrev N_checked_scores : List Str := ["policy", "scores"]
theorem sc_checked_scores : FnScope N_checked_scores ["policy", "scores"] (defScope s_checked_scores) := ⟨rfl, rfl, rfl, by decide +kernel, rfl, by decide +kernel, by decide +kernel⟩
abbrev s_checked_integers : Stmt := top 24
abbrev N_checked_integers : List Str := ["value", "many", "at", "number"]
theorem sc_checked_integers : FnScope N_checked_integers ["value", "many"] (defScope s_checked_integers) := ⟨rfl, rfl, rfl, by decide +kernel, rfl, by decide +kernel, by decide +kernel⟩
abbrev s__law_draw : Stmt := top 26
abbrev N__law_draw : List Str := ["script", "salt", "cells", "blend", "cell"]
theorem sc__law_draw : FnScope N__law_draw ["script", "salt"] (defScope s__law_draw) := ⟨rfl, rfl, rfl, by decide +kernel, rfl, by decide +kernel, by decide +kernel⟩
abbrev s__law_any : Stmt := top 27
abbrev N__law_any : List Str := ["deal", "bound", "rest"]
theorem sc__law_any : FnScope N__law_any ["deal", "bound"] (defScope s__law_any) := ⟨rfl, rfl, rfl, by decide +kernel, rfl, by decide +kernel, by decide +kernel⟩
abbrev s__law_of : Stmt := top 28
abbrev N__law_of : List Str := ["deal", "some"]
theorem sc__law_of : FnScope N__law_of ["deal", "some"] (defScope s__law_of) := ⟨rfl, rfl, rfl, by decide +kernel, rfl, by decide +kernel, by decide +kernel⟩
abbrev s__law_links : Stmt := top 29
abbrev N__law_links : List Str := ["deal", "many", "form", "links", "most", "steps", "one", "step", "other", "met", "site", "link"]
theorem sc__law_links : FnScope N__law_links ["deal", "many"] (defScope s__law_links) := ⟨rfl, rfl, rfl, by decide +kernel, rfl, by decide +kernel, by decide +kernel⟩
abbrev s__law_network : Stmt := top 30
abbrev N__law_network : List Str := ["deal", "kinds", "many", "start", "turn", "modes", "at"]
theorem sc__law_network : FnScope N__law_network ["deal", "kinds", "many"] (defScope s__law_network) := ⟨rfl, rfl, rfl, by decide +kernel, rfl, by decide +kernel, by decide +kernel⟩
abbrev s__law_views : Stmt := top 31
abbrev N__law_views : List Str := ["modes", "links", "found", "site", "mode", "near", "one", "other"]
theorem sc__law_views : FnScope N__law_views ["modes", "links"] (defScope s__law_views) := ⟨rfl, rfl, rfl, by decide +kernel, rfl, by decide +kernel, by decide +kernel⟩
abbrev s__law_other : Stmt := top 32
abbrev N__law_other : List Str := ["deal", "kinds", "degree", "many", "turn"]
theorem sc__law_other : FnScope N__law_other ["deal", "kinds", "degree"] (defScope s__law_other) := ⟨rfl, rfl, rfl, by decide +kernel, rfl, by decide +kernel, by decide +kernel⟩
abbrev s__law_policy : Stmt := top 33
abbrev N__law_policy : List Str := ["deal", "kinds", "nets", "views", "turn", "degree", "view", "at", "net"]
theorem sc__law_policy : FnScope N__law_policy ["deal"] (defScope s__law_policy) := ⟨rfl, rfl, rfl, by decide +kernel, rfl, by decide +kernel, by decide +kernel⟩
abbrev s__law_mixed : Stmt := top 34
abbrev N__law_mixed : List Str := ["deal", "some", "left", "found"]
theorem sc__law_mixed : FnScope N__law_mixed ["deal", "some"] (defScope s__law_mixed) := ⟨rfl, rfl, rfl, by decide +kernel, rfl, by decide +kernel, by decide +kernel⟩
abbrev s__law_refused : Stmt := top 35
abbrev N__law_refused : List Str := ["work", "e"]
theorem sc__law_refused : FnScope N__law_refused ["work"] (defScope s__law_refused) := ⟨rfl, rfl, rfl, by decide +kernel, rfl, by decide +kernel, by decide +kernel⟩
abbrev s__law_views_refused : Stmt := top 36
abbrev N__law_views_refused : List Str := ["deal", "kinds", "views", "at", "some", "bad", "modes", "value", "wrong"]
theorem sc__law_views_refused : FnScope N__law_views_refused ["deal", "kinds", "views"] (defScope s__law_views_refused) := ⟨rfl, rfl, rfl, by decide +kernel, rfl, by decide +kernel, by decide +kernel⟩
abbrev s__law_scores_right : Stmt := top 37
abbrev N__law_scores_right : List Str := ["deal", "policy", "views", "at", "many", "bad", "scores", "view"]
theorem sc__law_scores_right : FnScope N__law_scores_right ["deal", "policy", "views"] (defScope s__law_scores_right) := ⟨rfl, rfl, rfl, by decide +kernel, rfl, by decide +kernel, by decide +kernel⟩
abbrev s__law_part_right : Stmt := top 38
abbrev N__law_part_right : List Str := ["deal", "policy", "kinds", "views", "at", "places", "asked", "told", "bad"]
theorem sc__law_part_right : FnScope N__law_part_right ["deal", "policy", "kinds", "views"] (defScope s__law_part_right) := ⟨rfl, rfl, rfl, by decide +kernel, rfl, by decide +kernel, by decide +kernel⟩
abbrev s__law_all_right : Stmt := top 39
abbrev N__law_all_right : List Str := ["deal", "kinds", "many", "rows", "views", "turn", "longer", "row", "mode", "policy", "at"]
theorem sc__law_all_right : FnScope N__law_all_right ["deal", "kinds", "many"] (defScope s__law_all_right) := ⟨rfl, rfl, rfl, by decide +kernel, rfl, by decide +kernel, by decide +kernel⟩
abbrev s_law : Stmt := top 40
abbrev N_law : List Str := ["script", "deal", "turn", "kinds", "views", "nets", "handed", "policy", "other", "value", "due"]
theorem sc_law : FnScope N_law ["script"] (defScope s_law) := ⟨rfl, rfl, rfl, by decide +kernel, rfl, by decide +kernel, by decide +kernel⟩
abbrev s_Policy_init : Stmt := inClass (top 19) 0
abbrev N_Policy_init : List Str := ["self", "modes", "views", "at", "view"]
theorem sc_Policy_init : FnScope N_Policy_init ["self", "modes", "views"] (defScope s_Policy_init) := ⟨rfl, rfl, rfl, by decide +kernel, rfl, by decide +kernel, by decide +kernel⟩
abbrev s_Policy_eq : Stmt := inClass (top 19) 1
abbrev N_Policy_eq : List Str := ["self", "other"]
theorem sc_Policy_eq : FnScope N_Policy_eq ["self", "other"] (defScope s_Policy_eq) := ⟨rfl, rfl, rfl, by decide +kernel, rfl, by decide +kernel, by decide +kernel⟩
abbrev s_Policy_spot : Stmt := inClass (top 19) 2
abbrev N_Policy_spot : List Str := ["self", "view"]
theorem sc_Policy_spot : FnScope N_Policy_spot ["self", "view"] (defScope s_Policy_spot) := ⟨rfl, rfl, rfl, by decide +kernel, rfl, by decide +kernel, by decide +kernel⟩
/-- what the top must have -/
structure TX (K : PySem.W.Frag) (mg : Str → Option Value) where
  f_is_integer : Addr
  d_is_integer : FuncData
  F_is_integer : Fun K "is_integer" "is_integer" s_is_integer f_is_integer d_is_integer
  m_is_integer : mg "is_integer" = some (.ref f_is_integer)
  f_is_number : Addr
  d_is_number : FuncData
  F_is_number : Fun K "is_number" "is_number" s_is_number f_is_number d_is_number
  m_is_number : mg "is_number" = some (.ref f_is_number)
  f_is_below : Addr
  d_is_below : FuncData
  F_is_below : Fun K "is_below" "is_below" s_is_below f_is_below d_is_below
  m_is_below : mg "is_below" = some (.ref f_is_below)
  f_is_sequence : Addr
  d_is_sequence : FuncData
  F_is_sequence : Fun K "is_sequence" "is_sequence" s_is_sequence f_is_sequence d_is_sequence
  m_is_sequence : mg "is_sequence" = some (.ref f_is_sequence)
  f_is_tuple_of : Addr
  d_is_tuple_of : FuncData
  F_is_tuple_of : Fun K "is_tuple_of" "is_tuple_of" s_is_tuple_of f_is_tuple_of d_is_tuple_of
  m_is_tuple_of : mg "is_tuple_of" = some (.ref f_is_tuple_of)
  f_is_mode : Addr
  d_is_mode : FuncData
  F_is_mode : Fun K "is_mode" "is_mode" s_is_mode f_is_mode d_is_mode
  m_is_mode : mg "is_mode" = some (.ref f_is_mode)
  f_are_neighbours : Addr
  d_are_neighbours : FuncData
  F_are_neighbours : Fun K "are_neighbours" "are_neighbours" s_are_neighbours f_are_neighbours d_are_neighbours
  m_are_neighbours : mg "are_neighbours" = some (.ref f_are_neighbours)
  f_is_view : Addr
  d_is_view : FuncData
  F_is_view : Fun K "is_view" "is_view" s_is_view f_is_view d_is_view
  m_is_view : mg "is_view" = some (.ref f_is_view)
  f_is_view_below : Addr
  d_is_view_below : FuncData
  F_is_view_below : Fun K "is_view_below" "is_view_below" s_is_view_below f_is_view_below d_is_view_below
  m_is_view_below : mg "is_view_below" = some (.ref f_is_view_below)
  f_checked_views : Addr
  d_checked_views : FuncData
  F_checked_views : Fun K "checked_views" "checked_views" s_checked_views f_checked_views d_checked_views
  m_checked_views : mg "checked_views" = some (.ref f_checked_views)
  f_part : Addr
  d_part : FuncData
  F_part : Fun K "part" "part" s_part f_part d_part
  m_part : mg "part" = some (.ref f_part)
  f_checked_scores : Addr
  d_checked_scores : FuncData
  F_checked_scores : Fun K "checked_scores" "checked_scores" s_checked_scores f_checked_scores d_checked_scores
  m_checked_scores : mg "checked_scores" = some (.ref f_checked_scores)
  f_checked_integers : Addr
  d_checked_integers : FuncData
  F_checked_integers : Fun K "checked_integers" "checked_integers" s_checked_integers f_checked_integers d_checked_integers
  m_checked_integers : mg "checked_integers" = some (.ref f_checked_integers)
  f__law_draw : Addr
  d__law_draw : FuncData
  F__law_draw : Fun K "_law_draw" "_law_draw" s__law_draw f__law_draw d__law_draw
  m__law_draw : mg "_law_draw" = some (.ref f__law_draw)
  f__law_any : Addr
  d__law_any : FuncData
  F__law_any : Fun K "_law_any" "_law_any" s__law_any f__law_any d__law_any
  m__law_any : mg "_law_any" = some (.ref f__law_any)
  f__law_of : Addr
  d__law_of : FuncData
  F__law_of : Fun K "_law_of" "_law_of" s__law_of f__law_of d__law_of
  m__law_of : mg "_law_of" = some (.ref f__law_of)
  f__law_links : Addr
  d__law_links : FuncData
  F__law_links : Fun K "_law_links" "_law_links" s__law_links f__law_links d__law_links
  m__law_links : mg "_law_links" = some (.ref f__law_links)
  f__law_network : Addr
  d__law_network : FuncData
  F__law_network : Fun K "_law_network" "_law_network" s__law_network f__law_network d__law_network
  m__law_network : mg "_law_network" = some (.ref f__law_network)
  f__law_views : Addr
  d__law_views : FuncData
  F__law_views : Fun K "_law_views" "_law_views" s__law_views f__law_views d__law_views
  m__law_views : mg "_law_views" = some (.ref f__law_views)
  f__law_other : Addr
  d__law_other : FuncData
  F__law_other : Fun K "_law_other" "_law_other" s__law_other f__law_other d__law_other
  m__law_other : mg "_law_other" = some (.ref f__law_other)
  f__law_policy : Addr
  d__law_policy : FuncData
  F__law_policy : Fun K "_law_policy" "_law_policy" s__law_policy f__law_policy d__law_policy
  m__law_policy : mg "_law_policy" = some (.ref f__law_policy)
  f__law_mixed : Addr
  d__law_mixed : FuncData
  F__law_mixed : Fun K "_law_mixed" "_law_mixed" s__law_mixed f__law_mixed d__law_mixed
  m__law_mixed : mg "_law_mixed" = some (.ref f__law_mixed)
  f__law_refused : Addr
  d__law_refused : FuncData
  F__law_refused : Fun K "_law_refused" "_law_refused" s__law_refused f__law_refused d__law_refused
  m__law_refused : mg "_law_refused" = some (.ref f__law_refused)
  f__law_views_refused : Addr
  d__law_views_refused : FuncData
  F__law_views_refused : Fun K "_law_views_refused" "_law_views_refused" s__law_views_refused f__law_views_refused d__law_views_refused
  m__law_views_refused : mg "_law_views_refused" = some (.ref f__law_views_refused)
  f__law_scores_right : Addr
  d__law_scores_right : FuncData
  F__law_scores_right : Fun K "_law_scores_right" "_law_scores_right" s__law_scores_right f__law_scores_right d__law_scores_right
  m__law_scores_right : mg "_law_scores_right" = some (.ref f__law_scores_right)
  f__law_part_right : Addr
  d__law_part_right : FuncData
  F__law_part_right : Fun K "_law_part_right" "_law_part_right" s__law_part_right f__law_part_right d__law_part_right
  m__law_part_right : mg "_law_part_right" = some (.ref f__law_part_right)
  f__law_all_right : Addr
  d__law_all_right : FuncData
  F__law_all_right : Fun K "_law_all_right" "_law_all_right" s__law_all_right f__law_all_right d__law_all_right
  m__law_all_right : mg "_law_all_right" = some (.ref f__law_all_right)
  f_law : Addr
  d_law : FuncData
  F_law : Fun K "law" "law" s_law f_law d_law
  m_law : mg "law" = some (.ref f_law)
  n_int : mg "int" = none
  n_bool : mg "bool" = none
  n_abs : mg "abs" = none
  n_len : mg "len" = none
  n_min : mg "min" = none
  n_max : mg "max" = none
  n_sorted : mg "sorted" = none
  n_tuple : mg "tuple" = none
  n_list : mg "list" = none
  n_range : mg "range" = none
  n_repr : mg "repr" = none
  n_isinstance : mg "isinstance" = none
  n_enumerate : mg "enumerate" = none
  n_all : mg "all" = none
  t_MOST_MODES : Tok
  m_MOST_MODES : mg "MOST_MODES" = some (.int 4 t_MOST_MODES)
  t_MOST_NEIGHBOURS : Tok
  m_MOST_NEIGHBOURS : mg "MOST_NEIGHBOURS" = some (.int 4 t_MOST_NEIGHBOURS)
  c_InvalidPolicy : Addr
  i_InvalidPolicy : Addr
  E_InvalidPolicy : PySem.ErrX.ErrTxt K mg "InvalidPolicy" "InvalidPolicy.__init__" c_InvalidPolicy i_InvalidPolicy
  c_InvalidView : Addr
  i_InvalidView : Addr
  E_InvalidView : PySem.ErrX.ErrTxt K mg "InvalidView" "InvalidView.__init__" c_InvalidView i_InvalidView
  c_InvalidScore : Addr
  i_InvalidScore : Addr
  E_InvalidScore : PySem.ErrX.ErrTxt K mg "InvalidScore" "InvalidScore.__init__" c_InvalidScore i_InvalidScore
  c_InvalidQuestion : Addr
  i_InvalidQuestion : Addr
  E_InvalidQuestion : PySem.ErrX.ErrTxt K mg "InvalidQuestion" "InvalidQuestion.__init__" c_InvalidQuestion i_InvalidQuestion
  c_Policy : Addr
  m_Policy : mg "Policy" = some (.ref c_Policy)
  C_Policy : Cls K c_Policy
  A_Policy_modes : NoAttr K c_Policy "modes"
  A_Policy_views : NoAttr K c_Policy "views"
  A_Policy__spots : NoAttr K c_Policy "_spots"
  f_Policy_init : Addr
  d_Policy_init : FuncData
  F_Policy_init : Fun K "__init__" "Policy.__init__" s_Policy_init f_Policy_init d_Policy_init
  f_Policy_eq : Addr
  d_Policy_eq : FuncData
  F_Policy_eq : Fun K "__eq__" "Policy.__eq__" s_Policy_eq f_Policy_eq d_Policy_eq
  f_Policy_spot : Addr
  d_Policy_spot : FuncData
  F_Policy_spot : Fun K "spot" "Policy.spot" s_Policy_spot f_Policy_spot d_Policy_spot
  H_Policy_spot : Meth K c_Policy "spot" f_Policy_spot
  M_Policy : Mk K c_Policy f_Policy_init
  I_Policy : IsCls K c_Policy
  O_Policy : OwnC K c_Policy f_Policy_eq
section
variable {K : PySem.W.Frag} {mg : Str → Option Value} (T : TX K mg)
theorem TX.b_is_integer : Binds K T.d_is_integer ["value"] [] := T.F_is_integer.binds fun _ _ _ _ _ _ us hl => match us, hl with | [_], _ => rfl
theorem TX.b_is_number : Binds K T.d_is_number ["value"] [] := T.F_is_number.binds fun _ _ _ _ _ _ us hl => match us, hl with | [_], _ => rfl
theorem TX.b_is_below : Binds K T.d_is_below ["value", "limit"] [] := T.F_is_below.binds fun _ _ _ _ _ _ us hl => match us, hl with | [_, _], _ => rfl
theorem TX.b_is_sequence : Binds K T.d_is_sequence ["value"] [] := T.F_is_sequence.binds fun _ _ _ _ _ _ us hl => match us, hl with | [_], _ => rfl
theorem TX.b_is_tuple_of : Binds K T.d_is_tuple_of ["value", "length"] [] := T.F_is_tuple_of.binds fun _ _ _ _ _ _ us hl => match us, hl with | [_, _], _ => rfl
theorem TX.b_is_mode : Binds K T.d_is_mode ["value"] [] := T.F_is_mode.binds fun _ _ _ _ _ _ us hl => match us, hl with | [_], _ => rfl
theorem TX.b_are_neighbours : Binds K T.d_are_neighbours ["value"] [] := T.F_are_neighbours.binds fun _ _ _ _ _ _ us hl => match us, hl with | [_], _ => rfl
theorem TX.b_is_view : Binds K T.d_is_view ["value"] [] := T.F_is_view.binds fun _ _ _ _ _ _ us hl => match us, hl with | [_], _ => rfl
theorem TX.b_is_view_below : Binds K T.d_is_view_below ["value", "modes"] [] := T.F_is_view_below.binds fun _ _ _ _ _ _ us hl => match us, hl with | [_, _], _ => rfl
theorem TX.b_checked_views : Binds K T.d_checked_views ["modes", "views"] [] := T.F_checked_views.binds fun _ _ _ _ _ _ us hl => match us, hl with | [_, _], _ => rfl
theorem TX.b_part : Binds K T.d_part ["policy", "places"] [] := T.F_part.binds fun _ _ _ _ _ _ us hl => match us, hl with | [_, _], _ => rfl
theorem TX.b_checked_scores : Binds K T.d_checked_scores ["policy", "scores"] [] := T.F_checked_scores.binds fun _ _ _ _ _ _ us hl => match us, hl with | [_, _], _ => rfl
theorem TX.b_checked_integers : Binds K T.d_checked_integers ["value", "many"] [] := T.F_checked_integers.binds fun _ _ _ _ _ _ us hl => match us, hl with | [_, _], _ => rfl
theorem TX.b__law_draw : Binds K T.d__law_draw ["script", "salt"] [] := T.F__law_draw.binds fun _ _ _ _ _ _ us hl => match us, hl with | [_, _], _ => rfl
theorem TX.b__law_any : Binds K T.d__law_any ["deal", "bound"] [] := T.F__law_any.binds fun _ _ _ _ _ _ us hl => match us, hl with | [_, _], _ => rfl
theorem TX.b__law_of : Binds K T.d__law_of ["deal", "some"] [] := T.F__law_of.binds fun _ _ _ _ _ _ us hl => match us, hl with | [_, _], _ => rfl
theorem TX.b__law_links : Binds K T.d__law_links ["deal", "many"] [] := T.F__law_links.binds fun _ _ _ _ _ _ us hl => match us, hl with | [_, _], _ => rfl
theorem TX.b__law_network : Binds K T.d__law_network ["deal", "kinds", "many"] [] := T.F__law_network.binds fun _ _ _ _ _ _ us hl => match us, hl with | [_, _, _], _ => rfl
theorem TX.b__law_views : Binds K T.d__law_views ["modes", "links"] [] := T.F__law_views.binds fun _ _ _ _ _ _ us hl => match us, hl with | [_, _], _ => rfl
theorem TX.b__law_other : Binds K T.d__law_other ["deal", "kinds", "degree"] [] := T.F__law_other.binds fun _ _ _ _ _ _ us hl => match us, hl with | [_, _, _], _ => rfl
theorem TX.b__law_policy : Binds K T.d__law_policy ["deal"] [] := T.F__law_policy.binds fun _ _ _ _ _ _ us hl => match us, hl with | [_], _ => rfl
theorem TX.b__law_mixed : Binds K T.d__law_mixed ["deal", "some"] [] := T.F__law_mixed.binds fun _ _ _ _ _ _ us hl => match us, hl with | [_, _], _ => rfl
theorem TX.b__law_refused : Binds K T.d__law_refused ["work"] [] := T.F__law_refused.binds fun _ _ _ _ _ _ us hl => match us, hl with | [_], _ => rfl
theorem TX.b__law_views_refused : Binds K T.d__law_views_refused ["deal", "kinds", "views"] [] := T.F__law_views_refused.binds fun _ _ _ _ _ _ us hl => match us, hl with | [_, _, _], _ => rfl
theorem TX.b__law_scores_right : Binds K T.d__law_scores_right ["deal", "policy", "views"] [] := T.F__law_scores_right.binds fun _ _ _ _ _ _ us hl => match us, hl with | [_, _, _], _ => rfl
theorem TX.b__law_part_right : Binds K T.d__law_part_right ["deal", "policy", "kinds", "views"] [] := T.F__law_part_right.binds fun _ _ _ _ _ _ us hl => match us, hl with | [_, _, _, _], _ => rfl
theorem TX.b__law_all_right : Binds K T.d__law_all_right ["deal", "kinds", "many"] [] := T.F__law_all_right.binds fun _ _ _ _ _ _ us hl => match us, hl with | [_, _, _], _ => rfl
theorem TX.b_law : Binds K T.d_law ["script"] [] := T.F_law.binds fun _ _ _ _ _ _ us hl => match us, hl with | [_], _ => rfl
theorem TX.b_Policy_init : Binds K T.d_Policy_init ["self", "modes", "views"] [] := T.F_Policy_init.binds fun _ _ _ _ _ _ us hl => match us, hl with | [_, _, _], _ => rfl
theorem TX.b_Policy_eq : Binds K T.d_Policy_eq ["self", "other"] [] := T.F_Policy_eq.binds fun _ _ _ _ _ _ us hl => match us, hl with | [_, _], _ => rfl
theorem TX.b_Policy_spot : Binds K T.d_Policy_spot ["self", "view"] [] := T.F_Policy_spot.binds fun _ _ _ _ _ _ us hl => match us, hl with | [_, _], _ => rfl
end
/-! ### the deal -/
structure DealAt (H : Hp) (p q : Addr) (ns : List Int) (b : Int) : Prop where
  hp : H p = some (.lst [.ref q, .int b])
  hq : H q = some (.lst (ns.map V.int))
  ne : p ≠ q
  nn : ∀ n ∈ ns, 0 ≤ n
  len : ns.length ≤ 48
  b0 : 0 ≤ b
  b1 : b < 2147483647
def Deal (H : Hp) (p q : Addr) : Prop := ∃ ns b, DealAt H p q ns b
/-- all but the deal's two lists stays -/
def Fix (p q : Addr) (H H' : Hp) : Prop := ∀ a o, a ≠ p → a ≠ q → H a = some o → H' a = some o
theorem Fix.refl (p q : Addr) (H : Hp) : Fix p q H H := fun _ _ _ _ h => h
theorem Fix.trans {p q : Addr} {H H1 H2 : Hp} (a : Fix p q H H1) (b : Fix p q H1 H2) : Fix p q H H2 := fun c o h1 h2 h => b c o h1 h2 (a c o h1 h2 h)
theorem Fix.same {p q : Addr} {H H' : Hp} (s : Same H H') : Fix p q H H' := fun c o _ _ h => s c o h
theorem Fix.new {p q a : Addr} {H : Hp} {o : HO} (n : H a = none) : Fix p q H (upd H a o) := fun c u _ _ h => by
  rw [upd_ne (fun z => by rw [z, n] at h; cases h)]; exact h
theorem Fix.p {p q : Addr} {H : Hp} {o : HO} : Fix p q H (upd H p o) := fun c u h1 _ h => by rw [upd_ne h1]; exact h
theorem Fix.q {p q : Addr} {H : Hp} {o : HO} : Fix p q H (upd H q o) := fun c u _ h2 h => by rw [upd_ne h2]; exact h
theorem DealAt.new {H : Hp} {p q a : Addr} {ns : List Int} {b : Int} {o : HO} (d : DealAt H p q ns b) (n : H a = none) : DealAt (upd H a o) p q ns b :=
  ⟨by rw [upd_ne (fun z => by have := d.hp; rw [z, n] at this; cases this)]; exact d.hp,
   by rw [upd_ne (fun z => by have := d.hq; rw [z, n] at this; cases this)]; exact d.hq, d.ne, d.nn, d.len, d.b0, d.b1⟩
theorem DealAt.toq {H : Hp} {p q : Addr} {ns ms : List Int} {b : Int} (d : DealAt H p q ns b) (hn : ∀ n ∈ ms, 0 ≤ n) (hl : ms.length ≤ 48) :
    DealAt (upd H q (.lst (ms.map V.int))) p q ms b :=
  ⟨by rw [upd_ne d.ne]; exact d.hp, upd_same, d.ne, hn, hl, d.b0, d.b1⟩
theorem DealAt.top {H : Hp} {p q : Addr} {ns : List Int} {b c : Int} (d : DealAt H p q ns b) (h0 : 0 ≤ c) (h1 : c < 2147483647) :
    DealAt (upd H p (.lst [.ref q, .int c])) p q ns c :=
  ⟨upd_same, by rw [upd_ne (Ne.symm d.ne)]; exact d.hq, d.ne, d.nn, d.len, h0, h1⟩
theorem Deal.same {H H' : Hp} {p q : Addr} (d : Deal H p q) (s : Same H H') : Deal H' p q := by
  obtain ⟨ns, b, d⟩ := d
  exact ⟨ns, b, s _ _ d.hp, s _ _ d.hq, d.ne, d.nn, d.len, d.b0, d.b1⟩
def spAny : Sp := fun vs H Q _ => ∃ (p q : Addr) (m : Int), vs = [.ref p, .int m] ∧ Deal H p q ∧ 0 < m ∧ m < 1073741824 ∧
  ∀ H' i, Deal H' p q → Fix p q H H' → 0 ≤ i → i < m → Q (.int i) H'
def spOf (K : PySem.W.Frag) : Sp := fun vs H Q _ => ∃ (p q a : Addr) (xs : List V), vs = [.ref p, .ref a] ∧ Deal H p q ∧ a ≠ p ∧ a ≠ q ∧ H a = some (.lst xs) ∧
  0 < xs.length ∧ xs.length < 1000 ∧ ∀ H' x, x ∈ xs → Deal H' p q → Fix p q H H' → Q x H'
/-! data of a list of ints -/
theorem dpAll_ints (K : PySem.W.Frag) (H : Hp) : ∀ ns : List Int, DpAll K H (ns.map V.int) (ns.map PyData.int)
  | [] => .nil
  | n :: ns => .cons (.int n) (dpAll_ints K H ns)
theorem dp_ints {K : PySem.W.Frag} {H : Hp} {a : Addr} {ns : List Int} (h : H a = some (.lst (ns.map V.int))) : Dp K H (.ref a) (.list (ns.map PyData.int)) :=
  .lst (SqL.of h) (dpAll_ints K H ns)
theorem lay_ints : ∀ ns : List Int, PyData.canLayAll0 (ns.map PyData.int) = true
  | [] => rfl
  | n :: ns => by
    show (PyData.canLay0 (.int n) && PyData.canLayAll0 (ns.map PyData.int)) = true
    rw [lay_ints ns]; rfl
theorem dep_ints : ∀ ns : List Int, PyData.depthAll (ns.map PyData.int) ≤ 1
  | [] => by decide
  | n :: ns => by
    have h := dep_ints ns
    show max (PyData.depth (.int n)) (PyData.depthAll (ns.map PyData.int)) ≤ 1
    have h1 : PyData.depth (.int n) = 0 := rfl
    rw [h1]; omega
theorem sh_ints (ns : List Int) : SeqAt.shaped (.list (ns.map PyData.int)) = true := by
  have h := dep_ints ns
  have h1 : PyData.depth (.list (ns.map PyData.int)) = PyData.depthAll (ns.map PyData.int) + 1 := rfl
  unfold SeqAt.shaped
  have h2 : PyData.canLay0 (.list (ns.map PyData.int)) = PyData.canLayAll0 (ns.map PyData.int) := rfl
  rw [h2, lay_ints, h1, Bool.true_and]
  exact decide_eq_true (by omega)
theorem ne_nil_ints (ns : List Int) : PyData.eqv (.list (ns.map PyData.int)) (.list ([] : List PyData)) = decide (ns = []) := by
  cases ns <;> rfl
section
variable {P : Program} {w : World} {K : PySem.W.Frag} {mg : Str → Option Value} {base : Heap}
theorem ok_any {f : Addr} {fd : FuncData} (F : Fun K "_law_any" "_law_any" s__law_any f fd) (gi : mg "int" = none) : FnOk P w K mg base CX0 1 f fd ["deal", "bound"] spAny := by
  refine F.ok sc__law_any (fun vs H Q E h => ?_) fun cdv A outer s H vs Q E hr h => ⟨_, 
    pss_cons (ps_while PassesOwn.never (PW.pt (pw_and (pt_cmpR (op_neD hr.units) (pe_ix ix_list (pv 0) pe_int (fun _ _ => rfl)) (pe_lst pa_nil) (nomark _))
        (pw_and1 (pt_cmpR op_eq (pe_ix ix_list (pe_ix ix_list (pv 0) pe_int (fun _ _ => rfl)) (pe_un un_neg pe_int) (fun _ _ => rfl)) pe_int (nomark _)))))
      (pss_one (ps_expr (pe_bm0 PySem.F.plainAttrs_list PySem.F.slot_list_pop PySem.F.type_list_pop mt_pop (pe_ix ix_list (pv 0) pe_int (fun _ _ => rfl))))))
    (pss_cons (ps_if (pt_cmpR (op_neD hr.units) (pe_ix ix_list (pv 0) pe_int (fun _ _ => rfl)) (pe_lst pa_nil) (nomark _))
      (pss_cons (ps_set (i := 2) sc__law_any.nd rfl (.inl rfl) (pe_callTy call_int1 (by rfl) gi (by decide +kernel)
          (pa_cons (pe_bm0 PySem.F.plainAttrs_list PySem.F.slot_list_pop PySem.F.type_list_pop mt_pop (pe_ix ix_list (pv 0) pe_int (fun _ _ => rfl))) pa_nil)))
        (pss_cons (ps_expr (pe_bm PySem.F.plainAttrs_list PySem.F.slot_list_append PySem.F.type_list_append mt_append (pe_ix ix_list (pv 0) pe_int (fun _ _ => rfl))
            (pa_cons (pe_op op_fdiv (pv 2) (pv 1)) pa_nil)))
          (pss_one (ps_ret (pe_op op_mod (pv 2) (pv 1)))))) pss_nil)
    (pss_cons (ps_asg (pe_op op_mod (pe_callTy call_int1 (by rfl) gi (by decide +kernel) (pa_cons (pe_op op_add (pe_op op_mul (pe_ix ix_list (pv 0) pe_int (fun _ _ => rfl)) pe_int) pe_int) pa_nil)) pe_int)
        (pg_sub (pv 0) pe_int set_list))
    (pss_one (ps_ret (pe_op op_mod (pe_callTy call_int1 (by rfl) gi (by decide +kernel) (pa_cons (pe_op op_fdiv (pe_ix ix_list (pv 0) pe_int (fun _ _ => rfl)) pe_int) pa_nil)) (pv 1)))))), ?_⟩
  · obtain ⟨p, q, m, rfl, _⟩ := h
    rfl
  · obtain ⟨p, q, m, rfl, ⟨ns, b, d⟩, hm0, hm1, hQ⟩ := h
    refine ⟨fun n σ H' => σ = L2.start ["deal", "bound", "rest"] [.ref p, .int m] ∧ ∃ ns b, DealAt H' p q ns b ∧ Fix p q H H' ∧ n = ns.length, ⟨_, rfl, ns, b, d, Fix.refl _ _ _, rfl⟩, ?_⟩
    rintro n σ H' ⟨rfl, ns, b, d, fx, rfl⟩
    have d1 : ∀ e, H' e = none → DealAt (upd H' e (.lst [])) p q ns b := fun e he => d.new he
    have qe : ∀ e, H' e = none → q ≠ e := fun e he z => by have := d.hq; rw [z, he] at this; cases this
    refine ⟨.ref p, rfl, p, [.ref q, .int b], 0, .ref q, rfl, rfl, SqL.of d.hp, rfl, by show 0 ≤ sizeLine; decide, fun e he => ?_⟩
    refine ⟨_, _, dp_ints (d1 e he).hq, .lst (ds := []) (SqL.of upd_same) .nil, sh_ints ns, by decide, _, rfl, ?_⟩
    rw [ne_nil_ints]
    have fx1 : Fix p q H (upd H' e (.lst [])) := fx.trans (Fix.new he)
    have D1 := d1 e he
    generalize hG : upd H' e (.lst []) = H1 at D1 fx1
    clear hG d d1 qe he fx
    rcases List.eq_nil_or_concat ns with hn | ⟨init, l, hn⟩
    · subst hn
      refine iteF ?_
      refine ⟨.ref p, rfl, p, [.ref q, .int b], 0, .ref q, rfl, rfl, SqL.of D1.hp, rfl, by show 0 ≤ sizeLine; decide, fun e he => ?_⟩
      refine ⟨_, _, dp_ints (D1.new he).hq, .lst (ds := []) (SqL.of upd_same) .nil, sh_ints [], by decide, _, rfl, ?_⟩
      rw [ne_nil_ints]
      refine iteF ?_
      have D2 := D1.new (o := .lst []) he
      have fx2 : Fix p q H (upd H1 e (.lst [])) := fx1.trans (Fix.new he)
      generalize upd H1 e (.lst []) = H2 at D2 fx2
      have D3 := D2.top (c := (b * 40693 + 71) % 2147483647) (Int.emod_nonneg _ (by decide)) (Int.emod_lt_of_pos _ (by decide))
      have fx3 : Fix p q H (upd H2 p (.lst [.ref q, .int ((b * 40693 + 71) % 2147483647)])) := fx2.trans Fix.p
      refine ⟨.ref p, rfl, p, [.ref q, .int b], 1, .int b, rfl, rfl, SqL.of D2.hp, rfl, b, 40693, rfl, rfl, .inr ⟨by decide, by decide⟩, ?_⟩
      refine ⟨_, _, rfl, rfl, .inl ⟨_, rfl, _, _, rfl, rfl, (by decide : (0 : Int) < 2147483647), ?_⟩⟩
      refine ⟨.ref p, rfl, p, [.ref q, .int b], 1, 1, rfl, rfl, D2.hp, rfl, ?_⟩
      refine ⟨.ref p, rfl, p, [.ref q, .int _], 1, .int _, rfl, rfl, SqL.of D3.hp, rfl, _, 64, rfl, rfl, ⟨by decide, by decide⟩, .inl ⟨_, rfl, .int m, rfl, _, m, rfl, rfl, hm0, ?_⟩⟩
      exact hQ _ _ ⟨_, _, D3⟩ fx3 (Int.emod_nonneg _ (by omega)) (Int.emod_lt_of_pos _ hm0)
    · have hn : ns = init ++ [l] := by simpa using hn
      subst hn
      have nz : decide (init ++ [l] = ([] : List Int)) = false := by simp
      rw [nz]
      refine iteT ?_
      have hml : (init ++ [l]).map V.int = init.map V.int ++ [V.int l] := by simp
      have hpop : (init.map V.int ++ [V.int l])[(init.map V.int ++ [V.int l]).length - 1]? = some (V.int l) := by simp
      have hdl : (init.map V.int ++ [V.int l]).dropLast = init.map V.int := by simp
      have l0 : 0 ≤ l := D1.nn l (by simp)
      have len := D1.len
      have len' : init.length + 1 ≤ 48 := by simpa using len
      have hq := D1.hq
      rw [hml] at hq
      refine ⟨.ref p, rfl, p, [.ref q, .int b], 0, .ref q, rfl, rfl, SqL.of D1.hp, rfl, 1, rfl, q, _, -1, V.int l, rfl, rfl, SqL.of hq, atI_last _ _, rfl, _, rfl, ?_⟩
      by_cases hl : l = 0
      · have e1 : decide (V.int l = V.int 0) = true := by rw [hl]; decide
        refine iteT' e1 ?_
        refine ⟨fun σ' H'' => σ' = L2.start ["deal", "bound", "rest"] [.ref p, .int m] ∧ ∃ ns b, DealAt H'' p q ns b ∧ Fix p q H H'' ∧ ns.length = init.length, fun σ' H'' ⟨e, ns, b, h1, h2, h3⟩ => ⟨_, by simpa [h3] using Nat.lt_succ_self init.length, e, ns, b, h1, h2, rfl⟩, ?_⟩
        refine ⟨.ref p, rfl, p, [.ref q, .int b], 0, .ref q, rfl, rfl, SqL.of D1.hp, rfl, .inl ⟨rfl, _, SqL.of hq⟩, q, _, .int l, rfl, rfl, hq, hpop, ?_⟩
        rw [hdl]
        exact ⟨rfl, init, b, D1.toq (fun n hn => D1.nn n (by simp [hn])) (by omega), fx1.trans Fix.q, rfl⟩
      · have e1 : decide (V.int l = V.int 0) = false := by simpa using hl
        refine iteF' e1 ?_
        refine ⟨.ref p, rfl, p, [.ref q, .int b], 0, .ref q, rfl, rfl, SqL.of D1.hp, rfl, by show 0 ≤ sizeLine; decide, fun e he => ?_⟩
        have D2 := D1.new (o := .lst []) he
        refine ⟨_, _, dp_ints D2.hq, .lst (ds := []) (SqL.of upd_same) .nil, sh_ints _, by decide, _, rfl, ?_⟩
        rw [ne_nil_ints, nz]
        refine iteT ?_
        have fx2 : Fix p q H (upd H1 e (.lst [])) := fx1.trans (Fix.new he)
        generalize upd H1 e (.lst []) = H2 at D2 fx2
        have hq2 := D2.hq
        rw [hml] at hq2
        have D3 : DealAt (upd H2 q (.lst (init.map V.int))) p q init b := D2.toq (fun n hn => D1.nn n (by simp [hn])) (by omega)
        have D4 : DealAt (upd (upd H2 q (.lst (init.map V.int))) q (.lst ((init ++ [l / m]).map V.int))) p q (init ++ [l / m]) b := D3.toq (fun n hn => by
          rcases List.mem_append.mp hn with h | h
          · exact D1.nn n (by simp [h])
          · rw [List.mem_singleton.mp h]; exact Int.ediv_nonneg l0 (by omega)) (by simpa using len')
        refine ⟨.ref p, rfl, p, [.ref q, .int b], 0, .ref q, rfl, rfl, SqL.of D2.hp, rfl, .inl ⟨rfl, _, SqL.of hq2⟩, q, _, .int l, rfl, rfl, hq2, hpop, .inl ⟨l, rfl, ?_⟩⟩
        rw [hdl]
        refine ⟨.ref p, rfl, p, [.ref q, .int b], 0, .ref q, rfl, rfl, SqL.of D3.hp, rfl, .inl ⟨rfl, _, SqL.of upd_same⟩, .int l, rfl, .int m, rfl, l, m, rfl, rfl, ⟨hm0, hm1⟩, q, _, _, rfl, rfl, upd_same, ?_, ?_⟩
        · rw [List.length_map]; exact Nat.lt_of_lt_of_le (by omega : init.length < 48) (by decide)
        have ha : init.map V.int ++ [V.int (l / m)] = (init ++ [l / m]).map V.int := by simp
        rw [ha]
        refine ⟨.int l, rfl, .int m, rfl, l, m, rfl, rfl, hm0, ?_⟩
        exact hQ _ _ ⟨_, _, D4⟩ (fx2.trans (Fix.q.trans Fix.q)) (Int.emod_nonneg _ (by omega)) (Int.emod_lt_of_pos _ hm0)
theorem ok_of {f fA : Addr} {fd fdA : FuncData} (F : Fun K "_law_of" "_law_of" s__law_of f fd) (FA : Fun K "_law_any" "_law_any" s__law_any fA fdA) (gA : mg "_law_any" = some (.ref fA))
    (gi : mg "int" = none) (gl : mg "len" = none) : FnOk P w K mg base CX0 2 f fd ["deal", "some"] (spOf K) := by
  refine F.ok sc__law_of (fun vs H Q E h => ?_) fun cdv A outer s H vs Q E hr h => ⟨_, pss_one (ps_ret (pe_ix ix_list (pv 1)
    (pe_call (ok_any FA gi) hr (by rfl) gA FA.kp (FA.binds fun _ _ _ _ _ _ us hl => match us, hl with | [_, _], _ => rfl) .nil pass0 (pa_cons (pv 0) (pa_cons (pe_callB call_len_seq (by rfl) gl (by decide +kernel) (by exact pa_cons (pv 1) pa_nil)) pa_nil))) (fun _ _ => rfl))), ?_⟩
  · obtain ⟨p, q, a, xs, rfl, _⟩ := h
    rfl
  · obtain ⟨p, q, a, xs, rfl, d, n1, n2, ha, h0, h1, hQ⟩ := h
    refine ⟨.ref a, rfl, .ref p, rfl, .ref a, rfl, a, xs, rfl, Or.inl (SqL.of ha), p, q, _, rfl, d, by omega, by omega, fun H' i d' fx i0 i1 => ?_⟩
    obtain ⟨n, rfl⟩ := Int.eq_ofNat_of_zero_le i0
    have hn : n < xs.length := by omega
    exact ⟨a, xs, n, xs[n], rfl, rfl, SqL.of (fx a _ n1 n2 ha), atI_nat (List.getElem?_eq_getElem hn), hQ H' _ (List.getElem_mem hn) d' fx⟩
end

def spDraw (K : PySem.W.Frag) : Sp := fun vs H Q _ => ∃ (a : Addr) (ns : List Int) (t : Int), vs = [.ref a, .int t] ∧ SqL K H a (ns.map V.int) ∧ 0 ≤ t ∧ t < 10000 ∧
  ∀ H' p q, Same H H' → H p = none → H q = none → Deal H' p q → Q (.ref p) H'
theorem cut48 (ns : List Int) : ∃ ms : List Int, cutV (ns.map V.int) none (some 48) = ms.map V.int ∧ ms.length ≤ 48 := by
  refine ⟨(ns.drop 0).take (HT.sIx ns.length ns.length (some 48) - 0), ?_, ?_⟩
  · unfold cutV
    rw [List.length_map, HT.sIx_none, List.map_take, List.map_drop]
  · rw [List.length_take]
    have : HT.sIx ns.length ns.length (some ((48 : Nat) : Int)) = min 48 ns.length := HT.sIx_nat _ _ 48
    have h2 : (some ((48 : Nat) : Int) : Option Int) = some 48 := rfl
    rw [h2] at this
    rw [this]
    omega
theorem Same.new {H : Hp} {a : Addr} {o : HO} (n : H a = none) : Same H (upd H a o) := fun b u h => by
  rw [upd_ne (fun z => by rw [z, n] at h; cases h)]; exact h
section
variable {P : Program} {w : World} {K : PySem.W.Frag} {mg : Str → Option Value} {base : Heap}
theorem ok_draw {f : Addr} {fd : FuncData} (F : Fun K "_law_draw" "_law_draw" s__law_draw f fd) (gi : mg "int" = none) (gab : mg "abs" = none) :
    FnOk P w K mg base CX0 1 f fd ["script", "salt"] (spDraw K) := by
  refine F.ok sc__law_draw (fun vs H Q E h => ?_) fun cdv A outer s H vs Q E hr h => ⟨_,
    pss_cons (ps_setLc (i := 2) (own := [("cell", 4)]) (g := gName 4) (tt := tYes) rfl sc__law_draw.nd rfl rfl (sw_true rfl rfl rfl (by decide +kernel)) (pi_list (pe_slice sl_list (pv 0) po_none (po_some pe_int)))
        (blkOk_by (N := ["script", "salt", "cells", "blend", "cell"]) (sc := defScope s__law_draw) (by decide +kernel)) (fun _ _ _ _ _ => pg_name (i := 4) sc__law_draw.nd rfl (Or.inl rfl)) (fun _ _ _ _ _ => pts_nil)
        (fun _ _ _ _ _ => pe_callB call_abs (by rfl) gab (by decide +kernel) (pa_cons (pe_callTy call_int1 (by rfl) gi (by decide +kernel) (pa_cons (pv 4) pa_nil)) pa_nil)))
    (pss_cons (ps_set (i := 3) sc__law_draw.nd rfl (.inl rfl) (pe_op op_add pe_int (pe_op op_mul pe_int (pv 1))))
    (pss_cons (ps_for PassesOwn.never rfl (pi_list (pv 2)) (pg_name (i := 4) sc__law_draw.nd rfl (Or.inl rfl))
      (pss_one (ps_set (i := 3) sc__law_draw.nd rfl (.inl rfl) (pe_op op_mod (pe_callTy call_int1 (by rfl) gi (by decide +kernel)
        (pa_cons (pe_op op_add (pe_op op_add (pe_op op_mul (pv 3) pe_int) (pe_op op_mod (pv 4) pe_int)) pe_int) pa_nil)) pe_int))))
    (pss_one (ps_ret (pe_lst (pa_cons (pe_revL (pe_lc (own := [("cell", 4)]) (g := gName 4) (by rfl) sc__law_draw.nd (pi_list (pv 2))
        (blkOk_by (own := [("cell", 4)]) (N := ["script", "salt", "cells", "blend", "cell"]) (sc := defScope s__law_draw) (by decide +kernel)) (fun _ _ _ _ _ => pg_name (i := 4) sc__law_draw.nd rfl (Or.inl rfl))
        (fun _ _ _ _ _ => pts_one (pt_cmpR op_ge (pv 4) (pe_op op_pow pe_int pe_int) (nomark _))) (fun _ _ _ _ _ => pv 4))) (pa_cons (pv 3) pa_nil))))))), ?_⟩
  · obtain ⟨a, ns, t, rfl, _⟩ := h
    rfl
  · obtain ⟨a, ns, t, rfl, ha, t0, t1, hQ⟩ := h
    obtain ⟨ms, hms, hlen⟩ := cut48 ns
    refine ⟨.ref a, rfl, 48, rfl, a, _, rfl, ha, fun c hc => ?_⟩
    rw [hms]
    have S1 : Same H (upd H c (.lst (ms.map V.int))) := Same.new hc
    have h1 : upd H c (.lst (ms.map V.int)) c = some (.lst (ms.map V.int)) := upd_same
    generalize upd H c (.lst (ms.map V.int)) = H1 at S1 h1
    refine ⟨c, rfl, ⟨_, SqL.of h1⟩, fun D hD => ?_⟩
    refine lc_list (xs := ms.map V.int) (fun i H' => Same H1 H' ∧ ∃ cs : List Int, H' D = some (.lst (cs.map V.int)) ∧ cs.length = i ∧ ∀ n ∈ cs, 0 ≤ n)
      ⟨Same.new hD, [], upd_same, rfl, by simp⟩ (fun i H' _ p => SqL.of (p.1 _ _ h1)) (fun i x H' hi p => ?_) (fun H' p => ?_)
    · obtain ⟨s1, cs, hc1, hl, h0⟩ := p
      have hi' := (List.getElem?_eq_some_iff.mp hi).1
      rw [List.length_map] at hi'
      rw [List.getElem?_map] at hi
      obtain ⟨n, _, rfl⟩ := Option.map_eq_some_iff.mp hi
      refine ⟨rfl, .int n, rfl, .inl ⟨n, rfl, n, rfl, cs.map V.int, hc1, ?_, ?_, cs ++ [if n < 0 then -n else n], ?_, ?_, ?_⟩⟩
      · rw [List.length_map]; exact Nat.lt_of_lt_of_le (by omega : cs.length < 48) (by decide)
      · exact fun b o h => by
          rw [upd_ne (fun z => ?_)]
          · exact s1 b o h
          · rw [z, hD] at h; cases h
      · rw [upd_same]; simp
      · simp [hl]
      · intro k hk
        rcases List.mem_append.mp hk with hk | hk
        · exact h0 k hk
        · rw [List.mem_singleton.mp hk]; split <;> omega
    · obtain ⟨s1, cs, hc1, hl, h0⟩ := p
      have hl : cs.length ≤ 48 := by rw [hl, List.length_map]; exact hlen
      have S2 := S1.trans s1
      have hDn : H D = none := S1.free hD
      refine ⟨.int t, rfl, 104729, t, rfl, rfl, .inl ⟨by decide, by decide⟩, 7919, _, rfl, rfl, ?_⟩
      refine ⟨.ref D, rfl, D, rfl, ⟨_, SqL.of hc1⟩, for_list (xs := cs.map V.int) (fun i σ H'' => H'' = H' ∧ ∃ b o, σ = [some (.ref a), some (.int t), some (.ref D), some (.int b), o] ∧ 0 ≤ b ∧ b < 2147483647)
        ⟨rfl, 7919 + 104729 * t, _, rfl, by omega, by omega⟩ (fun i σ H'' _ p => by rw [p.1]; exact SqL.of hc1) (fun i x σ H'' hi p => ?_) (fun σ H'' p => ?_)⟩
      · obtain ⟨rfl, b, o, rfl, b0, b1⟩ := p
        rw [List.getElem?_map] at hi
        obtain ⟨n, _, rfl⟩ := Option.map_eq_some_iff.mp hi
        refine ⟨.int b, rfl, b, 48271, rfl, rfl, .inr ⟨by decide, by decide⟩, .int n, rfl, n, 2147483549, rfl, rfl, (by decide : (0 : Int) < 2147483549), _, _, rfl, rfl, _, 11, rfl, rfl, .inl ⟨_, rfl, _, 2147483647, rfl, rfl, (by decide : (0 : Int) < 2147483647), ?_⟩⟩
        exact ⟨rfl, _, _, rfl, Int.emod_nonneg _ (by decide), Int.emod_lt_of_pos _ (by decide)⟩
      · obtain ⟨rfl, b, o, rfl, b0, b1⟩ := p
        refine ⟨.ref D, rfl, D, rfl, ⟨_, SqL.of hc1⟩, fun D2 hD2 => ?_⟩
        refine lc_list (xs := cs.map V.int) (fun i H2 => Same H'' H2 ∧ ∃ es : List Int, H2 D2 = some (.lst (es.map V.int)) ∧ es.length ≤ i ∧ ∀ n ∈ es, 0 ≤ n)
          ⟨Same.new hD2, [], upd_same, Nat.le_refl _, by simp⟩ (fun i H2 _ p => SqL.of (p.1 _ _ hc1)) (fun i x H2 hi p => ?_) (fun H2 p => ?_)
        · obtain ⟨s1, es, he1, hl, h0'⟩ := p
          have hi' := (List.getElem?_eq_some_iff.mp hi).1
          rw [List.length_map] at hi'
          rw [List.getElem?_map] at hi
          obtain ⟨n, hn, rfl⟩ := Option.map_eq_some_iff.mp hi
          have hmem := List.mem_of_getElem? hn
          refine ⟨rfl, .int n, rfl, 10, 18, rfl, rfl, ⟨by decide, by decide, by decide⟩, n, _, rfl, rfl, _, rfl, ?_⟩
          by_cases hb : decide ((10 : Int) ^ (18 : Int).toNat ≤ n) = true
          · refine iteT' hb ⟨.int n, rfl, es.map V.int, he1, ?_, ?_, es ++ [n], ?_, ?_, ?_⟩
            · rw [List.length_map]; exact Nat.lt_of_lt_of_le (by omega : es.length < 48) (by decide)
            · exact fun b o h => by
                rw [upd_ne (fun z => ?_)]
                · exact s1 b o h
                · rw [z, hD2] at h; cases h
            · rw [upd_same]; simp
            · simp; omega
            · intro k hk
              rcases List.mem_append.mp hk with hk | hk
              · exact h0' k hk
              · rw [List.mem_singleton.mp hk]; exact h0 n hmem
          · exact iteF' (by simpa using hb) ⟨s1, es, he1, by omega, h0'⟩
        · obtain ⟨s1, es, he1, hl2, h0'⟩ := p
          rw [List.length_map] at hl2
          refine ⟨D2, _, rfl, SqL.of he1, fun q hq => ?_⟩
          refine ⟨.int b, rfl, by show 2 ≤ sizeLine; decide, fun p hp => ?_⟩
          have S3 := (S2.trans s1).trans (Same.new (o := .lst (es.map V.int).reverse) hq)
          have hqp : p ≠ q := fun z => by rw [z, upd_same] at hp; cases hp
          refine hQ _ p q (S3.trans (Same.new hp)) ((S3).free hp) ((S2.trans s1).free hq) ⟨es.reverse, b, upd_same, ?_, hqp, fun n hn => h0' n (by simpa using hn), by simp; omega, b0, b1⟩
          rw [upd_ne (Ne.symm hqp), upd_same, List.map_reverse]
end
end K03

namespace K03
open PySem PySem.Spec PyProof.Rows L2 KX
/-! ### classes of values -/
theorem tyx_same {K : PySem.W.Frag} {H H' : Hp} {x : V} {t : Value} (h : TyX K H x t) (s : Same H H') : TyX K H' x t := by
  cases h with
  | base h =>
    refine .base ?_
    cases h with
    | lst e => exact .lst (s _ _ e)
    | frz e => exact .frz (s _ _ e)
    | tup e => exact .tup (s _ _ e)
    | dK e => exact .dK (s _ _ e)
    | dT e => exact .dT (s _ _ e)
    | ins e a b c d f => exact .ins (s _ _ e) a b c d f
    | _ => constructor
  | byt b => exact .byt b
  | set e => exact .set (s _ _ e)
  | kList e c => exact .kList e c
  | kTuple e c => exact .kTuple e c
  | kDict e c => exact .kDict e c
  | fTuple e => exact .fTuple (s _ _ e)
  | fDict e => exact .fDict (s _ _ e)
theorem kin_same {K : PySem.W.Frag} {H H' : Hp} {x : V} {o : Option Int} (h : Kin K H x o) (s : Same H H') : Kin K H' x o := by
  cases h with
  | int i => exact .int i
  | oth t h1 h2 h3 => exact .oth (tyx_same t s) h1 h2 h3
theorem kins_same {K : PySem.W.Frag} {H H' : Hp} {xs : List V} {os : List (Option Int)} (h : Paired (Kin K H) xs os) (s : Same H H') : Paired (Kin K H') xs os := by
  induction h with
  | nil => exact .nil
  | cons a _ ih => exact .cons (kin_same a s) ih
inductive SqX (K : PySem.W.Frag) (H : Hp) : V → Option (List V) → Prop
  | lst {a : Addr} {xs : List V} (h : H a = some (.lst xs)) : SqX K H (.ref a) (some xs)
  | tup {a : Addr} {xs : List V} (h : Tup H a xs) : SqX K H (.ref a) (some xs)
  | oth {x : V} {n : String} (t : TyX K H x (.type n)) (h1 : kitB n "list" = some false) (h2 : kitB n "tuple" = some false) : SqX K H x none
theorem sqx_same {K : PySem.W.Frag} {H H' : Hp} {x : V} {o : Option (List V)} (h : SqX K H x o) (s : Same H H') : SqX K H' x o := by
  cases h with
  | lst h => exact .lst (s _ _ h)
  | tup h => exact .tup (h.same s)
  | oth t h1 h2 => exact .oth (tyx_same t s) h1 h2
theorem SqX.ty {K : PySem.W.Frag} {H : Hp} {x : V} {o : Option (List V)} (h : SqX K H x o) : ∃ n b1 b2, TyX K H x (.type n) ∧ kitB n "list" = some b1 ∧ kitB n "tuple" = some b2 ∧ (b1 || b2) = o.isSome := by
  cases h with
  | lst h => exact ⟨"list", true, false, .base (.lst h), by decide +kernel, by decide +kernel, rfl⟩
  | tup h => exact ⟨"tuple", false, true, h.ty, by decide +kernel, by decide +kernel, rfl⟩
  | oth t h1 h2 => exact ⟨_, _, _, t, h1, h2, rfl⟩
theorem kit_any {K : PySem.W.Frag} {n : String} {b1 b2 : Bool} (h1 : kitB n "list" = some b1) (h2 : kitB n "tuple" = some b2) :
    PySem.W.kitAny K (.type n) [.type "list", .type "tuple"] = some (b1 || b2) := by
  have k1 : PySem.W.kitOne K (.type n) (.type "list") = some b1 := kit_ty h1
  have k2 : PySem.W.kitOne K (.type n) (.type "tuple") = some b2 := kit_ty h2
  unfold PySem.W.kitAny
  rw [k1]
  cases b1 with
  | true => rfl
  | false =>
    show PySem.W.kitAny K (.type n) [.type "tuple"] = some b2
    unfold PySem.W.kitAny
    rw [k2]
    cases b2 <;> rfl
def numB : Option Int → Bool
  | some i => decide (0 ≤ i)
  | none => false
def belB (o : Option Int) (n : Int) : Bool := match o with
  | some i => decide (0 ≤ i) && decide (i < n)
  | none => false
abbrev bel4 (o : Option Int) : Bool := belB o 4
/-! ### what the defs do -/
def spIsInt (K : PySem.W.Frag) : Sp := fun vs H Q _ => ∃ x o, vs = [x] ∧ Kin K H x o ∧ Q (.bl o.isSome) H
def spNum (K : PySem.W.Frag) : Sp := fun vs H Q _ => ∃ x o, vs = [x] ∧ Kin K H x o ∧ Q (.bl (numB o)) H
def spBelow (K : PySem.W.Frag) : Sp := fun vs H Q _ => ∃ x o, ∃ n : Int, vs = [x, .int n] ∧ Kin K H x o ∧ Q (.bl (belB o n)) H
def spMode (K : PySem.W.Frag) : Sp := fun vs H Q _ => ∃ x o, vs = [x] ∧ Kin K H x o ∧ Q (.bl (bel4 o)) H
def spSeq (K : PySem.W.Frag) : Sp := fun vs H Q _ => ∃ x o, vs = [x] ∧ SqX K H x o ∧ ∀ H', Same H H' → Q (.bl o.isSome) H'
section
variable {P : Program} {w : World} {K : PySem.W.Frag} {mg : Str → Option Value} {base : Heap} {f1 f2 f3 : Addr} {d1 d2 d3 : FuncData} {f : Addr} {fd : FuncData}
theorem ok_int (F : Fun K "is_integer" "is_integer" s_is_integer f fd) (gI : mg "isinstance" = none)
    (gi : mg "int" = none) (gb : mg "bool" = none) : FnOk P w K mg base CX0 1 f fd ["value"] (spIsInt K) := by
  refine F.ok sc_is_integer (fun vs H Q E h => ?_) fun cdv A outer s H vs Q E hr h => ⟨_, pss_one (ps_ret (pe_and
      (pe_callB call_isi (by rfl) gI (by decide +kernel) (by exact pa_cons (pv 0) (pa_cons (pe_bltn (v := .ty "int") rfl gi (by decide +kernel) rfl) pa_nil)))
      (pe_one (pe_not (pe_callB call_isi (by rfl) gI (by decide +kernel)
        (by exact pa_cons (pv 0) (pa_cons (pe_bltn (v := .ty "bool") rfl gb (by decide +kernel) rfl) pa_nil))))))), ?_⟩
  · obtain ⟨x, o, rfl, _⟩ := h
    rfl
  · obtain ⟨x, o, rfl, hk, hQ⟩ := h
    obtain ⟨n, b1, b2, ty, k1, k2, e⟩ := hk.ty
    refine ⟨_, rfl, x, .ty "int", _, _, b1, rfl, .ty "int", ty, kit_ty k1, b1, rfl, ?_⟩
    rw [← e] at hQ
    cases b1 with
    | false => exact iteF hQ
    | true => exact iteT ⟨_, rfl, x, .ty "bool", _, _, b2, rfl, .ty "bool", ty, kit_ty k2, b2, rfl, hQ⟩
theorem ok_num (F : Fun K "is_number" "is_number" s_is_number f fd) (F1 : Fun K "is_integer" "is_integer" s_is_integer f1 d1) (G1 : FnOk P w K mg base CX0 1 f1 d1 ["value"] (spIsInt K))
    (g1 : mg "is_integer" = some (.ref f1)) : FnOk P w K mg base CX0 2 f fd ["value"] (spNum K) := by
  refine F.ok sc_is_number (fun vs H Q E h => ?_) fun cdv A outer s H vs Q E hr h => ⟨_, pss_one (ps_ret (pe_and
      (pe_call G1 hr (by rfl) g1 F1.kp (F1.binds fun _ _ _ _ _ _ us hl => match us, hl with | [_], _ => rfl) .nil pass0 (by exact pa_cons (pv 0) pa_nil))
      (pe_one (pe_cmpR op_ge (pv 0) pe_int (nomark _))))), ?_⟩
  · obtain ⟨x, o, rfl, _⟩ := h
    rfl
  · obtain ⟨x, o, rfl, hk, hQ⟩ := h
    refine ⟨x, rfl, x, o, rfl, hk, o.isSome, rfl, ?_⟩
    cases hk with
    | int i => exact iteT ⟨.int i, rfl, i, 0, rfl, rfl, hQ⟩
    | oth t h1 h2 h3 => exact iteF hQ
theorem ok_below (F : Fun K "is_below" "is_below" s_is_below f fd) (F1 : Fun K "is_number" "is_number" s_is_number f1 d1) (G1 : FnOk P w K mg base CX0 2 f1 d1 ["value"] (spNum K))
    (g1 : mg "is_number" = some (.ref f1)) : FnOk P w K mg base CX0 3 f fd ["value", "limit"] (spBelow K) := by
  refine F.ok sc_is_below (fun vs H Q E h => ?_) fun cdv A outer s H vs Q E hr h => ⟨_, pss_one (ps_ret (pe_and
      (pe_call G1 hr (by rfl) g1 F1.kp (F1.binds fun _ _ _ _ _ _ us hl => match us, hl with | [_], _ => rfl) .nil pass0 (by exact pa_cons (pv 0) pa_nil))
      (pe_one (pe_cmpR op_lt (pv 0) (pv 1) (nomark _))))), ?_⟩
  · obtain ⟨x, o, n, rfl, _⟩ := h
    rfl
  · obtain ⟨x, o, n, rfl, hk, hQ⟩ := h
    refine ⟨x, rfl, x, o, rfl, hk, numB o, rfl, ?_⟩
    cases hk with
    | int i =>
      have e : belB (some i) n = (decide (0 ≤ i) && decide (i < n)) := rfl
      rw [e] at hQ
      by_cases h0 : 0 ≤ i
      · rw [decide_eq_true h0, Bool.true_and] at hQ
        exact iteT' (decide_eq_true h0) ⟨.int i, rfl, .int n, rfl, i, n, rfl, rfl, hQ⟩
      · rw [decide_eq_false h0, Bool.false_and] at hQ
        exact iteF' (decide_eq_false h0) hQ
    | oth t h1 h2 h3 => exact iteF hQ
theorem ok_mode (F : Fun K "is_mode" "is_mode" s_is_mode f fd) (F1 : Fun K "is_below" "is_below" s_is_below f1 d1) (G1 : FnOk P w K mg base CX0 3 f1 d1 ["value", "limit"] (spBelow K))
    (g1 : mg "is_below" = some (.ref f1)) {t : Tok} (gm : mg "MOST_MODES" = some (.int 4 t)) : FnOk P w K mg base CX0 4 f fd ["value"] (spMode K) := by
  refine F.ok sc_is_mode (fun vs H Q E h => ?_) fun cdv A outer s H vs Q E hr h => ⟨_, pss_one (ps_ret
      (pe_call G1 hr (by rfl) g1 F1.kp (F1.binds fun _ _ _ _ _ _ us hl => match us, hl with | [_, _], _ => rfl) .nil pass0 (by exact pa_cons (pv 0) (pa_cons (pe_glob (v := .int 4) rfl gm ⟨_, rfl⟩) pa_nil)))), ?_⟩
  · obtain ⟨x, o, rfl, _⟩ := h
    rfl
  · obtain ⟨x, o, rfl, hk, hQ⟩ := h
    exact ⟨x, rfl, x, o, 4, rfl, hk, hQ⟩
theorem ok_seq (F : Fun K "is_sequence" "is_sequence" s_is_sequence f fd) (gI : mg "isinstance" = none) (gl : mg "list" = none) (gt : mg "tuple" = none) :
    FnOk P w K mg base CX0 1 f fd ["value"] (spSeq K) := by
  refine F.ok sc_is_sequence (fun vs H Q E h => ?_) fun cdv A outer s H vs Q E hr h => ⟨_, pss_one (ps_ret
      (pe_callB call_isiT (by rfl) gI (by decide +kernel) (by exact pa_cons (pv 0) (pa_cons (pe_tup (pa_cons (pe_bltn (v := .ty "list") rfl gl (by decide +kernel) rfl)
        (pa_cons (pe_bltn (v := .ty "tuple") rfl gt (by decide +kernel) rfl) pa_nil))) pa_nil)))), ?_⟩
  · obtain ⟨x, o, rfl, _⟩ := h
    rfl
  · obtain ⟨x, o, rfl, hk, hQ⟩ := h
    refine ⟨x, rfl, by show 2 ≤ sizeLine; decide, fun p hp => ?_⟩
    have S : Same H (upd H p (.tup [.ty "list", .ty "tuple"])) := Same.new hp
    obtain ⟨n, b1, b2, ty, k1, k2, e⟩ := (sqx_same hk S).ty
    refine ⟨x, p, _, _, [.type "list", .type "tuple"], b1 || b2, rfl, upd_same, .cons (.ty "list") (.cons (.ty "tuple") .nil), ty, kit_any k1 k2, ?_⟩
    rw [e]
    exact hQ _ S
end
section
variable {P : Program} {w : World} {K : PySem.W.Frag} {mg : Str → Option Value} {base : Heap} (T : TX K mg)
theorem G_is_integer : FnOk P w K mg base CX0 1 T.f_is_integer T.d_is_integer ["value"] (spIsInt K) := ok_int T.F_is_integer T.n_isinstance T.n_int T.n_bool
theorem G_is_number : FnOk P w K mg base CX0 2 T.f_is_number T.d_is_number ["value"] (spNum K) := ok_num T.F_is_number T.F_is_integer (G_is_integer T) T.m_is_integer
theorem G_is_below : FnOk P w K mg base CX0 3 T.f_is_below T.d_is_below ["value", "limit"] (spBelow K) := ok_below T.F_is_below T.F_is_number (G_is_number T) T.m_is_number
theorem G_is_mode : FnOk P w K mg base CX0 4 T.f_is_mode T.d_is_mode ["value"] (spMode K) := ok_mode T.F_is_mode T.F_is_below (G_is_below T) T.m_is_below T.m_MOST_MODES
theorem G_is_sequence : FnOk P w K mg base CX0 1 T.f_is_sequence T.d_is_sequence ["value"] (spSeq K) := ok_seq T.F_is_sequence T.n_isinstance T.n_list T.n_tuple
theorem G__law_any : FnOk P w K mg base CX0 1 T.f__law_any T.d__law_any ["deal", "bound"] spAny := ok_any T.F__law_any T.n_int
theorem G__law_of : FnOk P w K mg base CX0 2 T.f__law_of T.d__law_of ["deal", "some"] (spOf K) := ok_of T.F__law_of T.F__law_any T.m__law_any T.n_int T.n_len
theorem G__law_draw : FnOk P w K mg base CX0 1 T.f__law_draw T.d__law_draw ["script", "salt"] (spDraw K) := ok_draw T.F__law_draw T.n_int T.n_abs
end
end K03

namespace KX
open PySem PySem.Spec PyProof.Rows L2
theorem PG.or {X : Cx} {tg : Expr} {w1 w2 : TG} (h1 : PG X tg w1) (h2 : PG X tg w2) : PG X tg (fun v σ H Q => w1 v σ H Q ∨ w2 v σ H Q) :=
  ⟨fun pins s σ H v u Q I r h => h.elim (h1.run pins s σ H v u Q I r) (h2.run pins s σ H v u Q I r)⟩
theorem inV_ints (b : Int) : ∀ row : List Int, inV (.int b) (row.map V.int) = decide (b ∈ row)
  | [] => rfl
  | x :: row => by
    have h := inV_ints b row
    show (eqV (.int x) (.int b) || inV (.int b) (row.map V.int)) = _
    rw [h]
    have e : eqV (.int x) (.int b) = decide (x = b) := by
      first
        | rfl
        | (simp [eqV])
    rw [e]
    by_cases z : x = b
    · simp [z]
    · have z' : ¬ b = x := fun q => z q.symm
      simp [z, z']
theorem flat_ints : ∀ row : List Int, (row.map V.int).all flatV = true
  | [] => rfl
  | x :: row => by
    show (flatV (.int x) && (row.map V.int).all flatV) = true
    rw [flat_ints row]; rfl
theorem rd_notInI {K : PySem.W.Frag} {H : Hp} {p : Addr} {row : List Int} {b : Int} {Q : VK} (ha : SqL K H p (row.map V.int) ∨ SqT K H p (row.map V.int)) (h : Q (.bl (!decide (b ∈ row))) H) : rIn K true (.int b) (.ref p) H Q :=
  ⟨p, _, rfl, ha, rfl, flat_ints row, by rw [inV_ints]; exact h⟩
theorem rd_inI {K : PySem.W.Frag} {H : Hp} {p : Addr} {row : List Int} {b : Int} {Q : VK} (ha : SqL K H p (row.map V.int) ∨ SqT K H p (row.map V.int)) (h : Q (.bl (decide (b ∈ row))) H) : rIn K false (.int b) (.ref p) H Q :=
  ⟨p, _, rfl, ha, rfl, flat_ints row, by rw [inV_ints]; exact h⟩
end KX
namespace K03
open PySem PySem.Spec PyProof.Rows L2 KX
local macro_rules | `(tactic| walk_at "rd1") => `(tactic| first
  | with_reducible refine rd_seq ?_
  | with_reducible refine rd_asg ?_
  | ((with_reducible refine' rd_var ?rdv ?_); (case rdv => exact rfl))
  | with_reducible refine rd_c ?_
  | with_reducible refine rd_op ?_
  | with_reducible refine rd_un ?_
  | with_reducible refine rd_cons ?_
  | with_reducible refine rd_nil ?_
  | with_reducible refine rd_call ?_
  | with_reducible refine rd_cb ?_
  | with_reducible refine rd_tB ?_
  | with_reducible refine rd_test ?_
  | with_reducible refine rd_bl ?_
  | with_reducible refine rd_rI0 ?_
  | with_reducible refine rd_eqI ?_
  | with_reducible refine rd_neI ?_
  | with_reducible refine rd_rU ?_
  | with_reducible refine rd_name ?_
  | with_reducible refine rd_ifs ?_
  | with_reducible refine rd_and ?_
  | with_reducible refine rd_or ?_
  | with_reducible refine rd_not ?_
  | with_reducible refine rd_yes ?_
  | with_reducible refine rd_andV ?_
  | with_reducible refine rd_orV ?_
  | with_reducible refine rd_notV ?_
  | with_reducible refine rd_if ?_
  | with_reducible refine rd_isN ?_
  | with_reducible refine rd_iT ?_
  | with_reducible refine rd_iF ?_
  | with_reducible refine rd_ret ?_
  | with_reducible refine rd_retN ?_
  | with_reducible refine rd_drop ?_
  | with_reducible refine rd_next ?_
  | with_reducible refine rd_cont ?_
  | with_reducible refine rd_brk ?_
  | with_reducible refine rd_nx ?_
  | with_reducible refine rd_rt ?_
  | with_reducible refine rd_ct ?_
  | with_reducible refine rd_bk ?_
  | with_reducible refine rd_par ?_
  | with_reducible refine rd_par3 ?_
  | with_reducible refine rd_par2 ?_
  | with_reducible refine rd_par33 ?_
  | with_reducible refine rd_gcons ?_
  | with_reducible refine rd_gnil ?_
  | with_reducible refine rd_sub ?_
  | with_reducible refine rd_tup ?_
  | with_reducible refine rd_lst ?_
  | ((with_reducible refine rd_tupT ?hl ?_); (case hl => exact Nat.le_of_ble_eq_true rfl))
  | ((with_reducible refine rd_lstT ?hl ?_); (case hl => exact Nat.le_of_ble_eq_true rfl))
  | with_reducible refine rd_bm ?_
  | with_reducible refine rd_bm0 ?_
  | with_reducible refine rd_sl ?_
  | with_reducible refine rd_noP ?_
  | with_reducible refine rd_part ?_
  | with_reducible refine rd_int ?_
  | with_reducible refine rd_int1 ?_
  | with_reducible refine rd_fld ?_
  | with_reducible refine rd_then ?_
  | with_reducible refine rd_raise ?_
  | with_reducible refine rd_one ?_
  | with_reducible refine rd_sfld ?_
  | with_reducible refine rd_ilist ?_
  | with_reducible refine rd_itup ?_
  | with_reducible refine rd_rng1 ?_
  | with_reducible refine rd_enum ?_
  | with_reducible refine rd_enumT ?_)
local macro_rules | `(tactic| walk_at "rd") => `(tactic| repeat (walk_at "rd1"))
/-! ### the rows of neighbours -/
def rowOf (R : List (List Int)) (a : Int) : List Int := R.getD a.toNat []
def okL (R : List (List Int)) : Option (Int × Int) → Bool
  | none => false
  | some (a, b) => !decide (b ∈ rowOf R a) && (decide ((rowOf R a).length < 4) && decide ((rowOf R b).length < 4))
def appR (R : List (List Int)) (a b : Int) : List (List Int) := R.set a.toNat (rowOf R a ++ [b])
def addR (R : List (List Int)) : Option (Int × Int) → List (List Int)
  | none => R
  | some (a, b) => appR (appR R a b) b a
/-- one entry more, if it can be linked -/
def stepL (R : List (List Int)) (e : Option (Int × Int)) : Option (List (List Int)) := if okL R e = true then some (addR R e) else none
def runP (R : List (List Int)) : List (Option (Int × Int)) → Option (List (List Int))
  | [] => some R
  | e :: es => (stepL R e).bind fun R' => runP R' es
/-- the rows stand at rs -/
structure Rows (H : Hp) (N : Addr) (rs : List Addr) (R : List (List Int)) : Prop where
  at_ : H N = some (.lst (rs.map V.ref))
  rows : Paired (fun r (row : List Int) => H r = some (.lst (row.map V.int))) rs R
  nd : rs.Nodup
  out : N ∉ rs
theorem Rows.same {H H' : Hp} {N : Addr} {rs : List Addr} {R : List (List Int)} (h : Rows H N rs R) (s : Same H H') : Rows H' N rs R :=
  ⟨s _ _ h.at_, by
    have h2 := h.rows
    clear h
    induction h2 with
    | nil => exact .nil
    | cons a _ ih => exact .cons (s _ _ a) ih, h.nd, h.out⟩
/-- what an entry of the links is, among n sites -/
inductive LkIs (K : PySem.W.Frag) (H : Hp) (n : Nat) : V → Option (Int × Int) → Prop
  | seq {x : V} (s : SqX K H x none) : LkIs K H n x none
  | len {x : V} {xs : List V} (s : SqX K H x (some xs)) (l : xs.length ≠ 2) : LkIs K H n x none
  | fst {x y z : V} {o : Option Int} (s : SqX K H x (some [y, z])) (k : Kin K H y o) (b : belB o n = false) : LkIs K H n x none
  | snd {x y z : V} {o o' : Option Int} (s : SqX K H x (some [y, z])) (k : Kin K H y o) (k' : Kin K H z o') (b : belB o' n = false) : LkIs K H n x none
  | eq {x : V} {a : Int} (s : SqX K H x (some [.int a, .int a])) (a0 : 0 ≤ a) (a1 : a < n) : LkIs K H n x none
  | ok {x : V} {a b : Int} (s : SqX K H x (some [.int a, .int b])) (a0 : 0 ≤ a) (a1 : a < n) (b0 : 0 ≤ b) (b1 : b < n) (ne : a ≠ b) : LkIs K H n x (some (a, b))
theorem LkIs.same {K : PySem.W.Frag} {H H' : Hp} {n : Nat} {x : V} {e : Option (Int × Int)} (h : LkIs K H n x e) (s : Same H H') : LkIs K H' n x e := by
  cases h with
  | seq h => exact .seq (sqx_same h s)
  | len h l => exact .len (sqx_same h s) l
  | fst h k b => exact .fst (sqx_same h s) (kin_same k s) b
  | snd h k k' b => exact .snd (sqx_same h s) (kin_same k s) (kin_same k' s) b
  | eq h a b => exact .eq (sqx_same h s) a b
  | ok h a b c d e => exact .ok (sqx_same h s) a b c d e
theorem belB_true {a : Int} {n : Nat} (h0 : 0 ≤ a) (h1 : a < n) : belB (some a) n = true := by
  show (decide (0 ≤ a) && decide (a < (n : Int))) = true
  rw [decide_eq_true h0, decide_eq_true h1]; rfl
theorem SqX.any {K : PySem.W.Frag} {H : Hp} {x : V} {xs : List V} (h : SqX K H x (some xs)) : ∃ a, x = .ref a ∧ (SqL K H a xs ∨ SqT K H a xs) := by
  cases h with
  | lst h => exact ⟨_, rfl, .inl (SqL.of h)⟩
  | tup h => exact ⟨_, rfl, .inr h.sq⟩
theorem SqX.unp {K : PySem.W.Frag} {H : Hp} {a : Addr} {xs : List V} {n : Nat} {t : TGs} {σ : L2.St} {Q : L2.St → Hp → Prop} (h : SqX K H (.ref a) (some xs)) (e : xs.length = n) (q : t xs σ H Q) : gTup K n t (.ref a) σ H Q ∨ gLst K n t (.ref a) σ H Q := by
  cases h with
  | lst h => exact .inr (rd_glst h e q)
  | tup h => exact .inl (rd_gtup h e q)
def spCan (K : PySem.W.Frag) : Sp := fun vs H Q _ => ∃ (N : Addr) (rs : List Addr) (R : List (List Int)) (x : V) (e : Option (Int × Int)), vs = [.ref N, x] ∧ Rows H N rs R ∧ LkIs K H rs.length x e ∧
  ∀ H', Same H H' → Q (.bl (okL R e)) H'
theorem rowOf_get {R : List (List Int)} {a : Int} (h1 : a.toNat < R.length) : R[a.toNat]? = some (rowOf R a) := by
  unfold rowOf
  rw [List.getD_eq_getElem?_getD, List.getElem?_eq_getElem h1]; rfl
theorem Rows.get {H : Hp} {N : Addr} {rs : List Addr} {R : List (List Int)} (h : Rows H N rs R) {a : Int} (a0 : 0 ≤ a) (a1 : a < rs.length) :
    ∃ r, rs[a.toNat]? = some r ∧ H r = some (.lst ((rowOf R a).map V.int)) ∧ atI (rs.map V.ref) a = some (.ref r) := by
  have hl : a.toNat < rs.length := by omega
  have e := List.getElem?_eq_getElem hl
  have z : rs.length = R.length := Paired.length h.rows
  refine ⟨rs[a.toNat], e, ?_, ?_⟩
  · have q := h.rows
    obtain ⟨y, hy, hq⟩ : ∃ y, R[a.toNat]? = some y ∧ H rs[a.toNat] = some (.lst (y.map V.int)) := by
      have gen : ∀ {l : List Addr} {m : List (List Int)}, Paired (fun r (row : List Int) => H r = some (.lst (row.map V.int))) l m → ∀ i (h : i < l.length), ∃ y, m[i]? = some y ∧ H l[i] = some (.lst (y.map V.int)) := by
        intro l m p
        induction p with
        | nil => intro i h; simp at h
        | @cons x y l m hxy _ ih =>
          intro i h
          cases i with
          | zero => exact ⟨y, rfl, hxy⟩
          | succ j => exact ih j (by simpa using h)
      exact gen q a.toNat hl
    rw [rowOf_get (by omega)] at hy
    cases hy
    exact hq
  · obtain ⟨n, rfl⟩ := Int.eq_ofNat_of_zero_le a0
    have e' : rs[n]? = some rs[n] := e
    exact atI_nat (by rw [List.getElem?_map, e']; rfl)
section
variable {P : Program} {w : World} {K : PySem.W.Frag} {mg : Str → Option Value} {base : Heap} (T : TX K mg)
end
end K03

namespace K03
open PySem PySem.Spec PyProof.Rows L2 KX
local macro_rules | `(tactic| walk_at "rd1") => `(tactic| first
  | with_reducible refine rd_seq ?_
  | with_reducible refine rd_asg ?_
  | ((with_reducible refine' rd_var ?rdv ?_); (case rdv => exact rfl))
  | with_reducible refine rd_c ?_
  | with_reducible refine rd_op ?_
  | with_reducible refine rd_un ?_
  | with_reducible refine rd_cons ?_
  | with_reducible refine rd_nil ?_
  | with_reducible refine rd_call ?_
  | with_reducible refine rd_cb ?_
  | with_reducible refine rd_tB ?_
  | with_reducible refine rd_test ?_
  | with_reducible refine rd_bl ?_
  | with_reducible refine rd_rI0 ?_
  | with_reducible refine rd_eqI ?_
  | with_reducible refine rd_neI ?_
  | with_reducible refine rd_rU ?_
  | with_reducible refine rd_name ?_
  | with_reducible refine rd_ifs ?_
  | with_reducible refine rd_and ?_
  | with_reducible refine rd_or ?_
  | with_reducible refine rd_not ?_
  | with_reducible refine rd_yes ?_
  | with_reducible refine rd_andV ?_
  | with_reducible refine rd_orV ?_
  | with_reducible refine rd_notV ?_
  | with_reducible refine rd_if ?_
  | with_reducible refine rd_isN ?_
  | with_reducible refine rd_iT ?_
  | with_reducible refine rd_iF ?_
  | with_reducible refine rd_ret ?_
  | with_reducible refine rd_retN ?_
  | with_reducible refine rd_drop ?_
  | with_reducible refine rd_next ?_
  | with_reducible refine rd_cont ?_
  | with_reducible refine rd_brk ?_
  | with_reducible refine rd_nx ?_
  | with_reducible refine rd_rt ?_
  | with_reducible refine rd_ct ?_
  | with_reducible refine rd_bk ?_
  | with_reducible refine rd_par ?_
  | with_reducible refine rd_par3 ?_
  | with_reducible refine rd_par2 ?_
  | with_reducible refine rd_par33 ?_
  | with_reducible refine rd_gcons ?_
  | with_reducible refine rd_gnil ?_
  | with_reducible refine rd_sub ?_
  | with_reducible refine rd_tup ?_
  | with_reducible refine rd_lst ?_
  | ((with_reducible refine rd_tupT ?hl ?_); (case hl => exact Nat.le_of_ble_eq_true rfl))
  | ((with_reducible refine rd_lstT ?hl ?_); (case hl => exact Nat.le_of_ble_eq_true rfl))
  | with_reducible refine rd_bm ?_
  | with_reducible refine rd_bm0 ?_
  | with_reducible refine rd_sl ?_
  | with_reducible refine rd_noP ?_
  | with_reducible refine rd_part ?_
  | with_reducible refine rd_int ?_
  | with_reducible refine rd_int1 ?_
  | with_reducible refine rd_fld ?_
  | with_reducible refine rd_then ?_
  | with_reducible refine rd_raise ?_
  | with_reducible refine rd_one ?_
  | with_reducible refine rd_sfld ?_
  | with_reducible refine rd_ilist ?_
  | with_reducible refine rd_itup ?_
  | with_reducible refine rd_rng1 ?_
  | with_reducible refine rd_enum ?_
  | with_reducible refine rd_enumT ?_)
local macro_rules | `(tactic| walk_at "rd") => `(tactic| repeat (walk_at "rd1"))
/-- a list (true) or a tuple -/
def SqB (H : Hp) (x : V) (xs : List V) : Bool → Prop
  | true => ∃ a, x = .ref a ∧ H a = some (.lst xs)
  | false => ∃ a, x = .ref a ∧ Tup H a xs
theorem SqX.b {K : PySem.W.Frag} {H : Hp} {x : V} {xs : List V} (h : SqX K H x (some xs)) : ∃ b, SqB H x xs b := by
  cases h with
  | lst h => exact ⟨true, _, rfl, h⟩
  | tup h => exact ⟨false, _, rfl, h⟩
theorem SqB.x {K : PySem.W.Frag} {H : Hp} {x : V} {xs : List V} {b : Bool} (h : SqB H x xs b) : SqX K H x (some xs) := by
  cases b with
  | true => obtain ⟨a, rfl, h⟩ := h; exact .lst h
  | false => obtain ⟨a, rfl, h⟩ := h; exact .tup h
theorem SqB.same {H H' : Hp} {x : V} {xs : List V} {b : Bool} (h : SqB H x xs b) (s : Same H H') : SqB H' x xs b := by
  cases b with
  | true => obtain ⟨a, rfl, h⟩ := h; exact ⟨a, rfl, s _ _ h⟩
  | false => obtain ⟨a, rfl, h⟩ := h; exact ⟨a, rfl, h.same s⟩
theorem for_enumX {K : PySem.W.Frag} {ta : TA} {g : TG} {tb : TS} {D : Ends} {σ : L2.St} {H : Hp} {x : V} {xs : List V} {b : Bool} (hx : SqB H x xs b) (hta : ∀ R : List V → Hp → Prop, R [x] H → ta σ H R)
    (Pv : Nat → L2.St → Hp → Prop) (h0 : Pv 0 σ H) (hS : ∀ i σ H', Pv i σ H' → SqB H' x xs b)
    (hs : ∀ i y σ H' T H2, xs[i]? = some y → Pv i σ H' → H' T = none → Same H' H2 → H2 T = some (.tup [.int (i : Nat), y]) → g (.ref T) σ H2 fun σ3 H3 => tb { D with nx := Pv (i + 1), ct := Pv (i + 1), bk := D.nx } σ3 H3)
    (hd : ∀ σ H', Pv xs.length σ H' → D.nx σ H') : tFor (fun σ H R => iEnum K ta σ H R ∨ iEnumT K ta σ H R) g tb D σ H := by
  have st : ∀ i v σ H1 H2, i < xs.length → Pv i σ H1 → YPair (fun i => some (.int (i : Nat))) (fun i => xs[i]?) i H1 v H2 → g v σ H2 fun σ3 H3 => tb { D with nx := Pv (i + 1), ct := Pv (i + 1), bk := D.nx } σ3 H3 := by
    rintro i v σ H1 H2 _ hp ⟨T, a, b, rfl, hT, rfl, ha, hb⟩
    have ha : some (V.int (i : Nat)) = some a := ha
    cases ha
    exact hs i b σ H1 T _ hb hp hT (Same.fresh hT) upd_same
  cases b with
  | true =>
    obtain ⟨a, rfl, h⟩ := hx
    refine .inl (hta _ ⟨_, _, rfl, SqL.of h, for_it (walk_enum (K := K) (xs := xs)) Pv h0 (fun i σ H' _ p => ?_) st hd⟩)
    obtain ⟨a', e, h'⟩ := hS i σ H' p
    cases e
    exact SqL.of h'
  | false =>
    obtain ⟨a, rfl, h⟩ := hx
    refine .inr (hta _ ⟨_, _, rfl, h.sq, for_it (walk_enumT (K := K) (xs := xs)) Pv h0 (fun i σ H' _ p => ?_) st hd⟩)
    obtain ⟨a', e, h'⟩ := hS i σ H' p
    cases e
    exact h'.sq
theorem kTup_b {K : PySem.W.Frag} {H : Hp} {x : V} {xs : List V} {b : Bool} {Q : VK} (h : SqB H x xs b) (q : ∀ H' p, Same H H' → Tup H' p xs → Q (.ref p) H') : kTup K x H Q := by
  cases b with
  | true => obtain ⟨a, rfl, h⟩ := h; exact .inl ⟨_, _, rfl, SqL.of h, fun p hp => q _ p (Same.fresh hp) (Tup.of upd_same)⟩
  | false => obtain ⟨a, rfl, h⟩ := h; exact .inr ⟨_, _, rfl, h.sq, q H _ (Same.refl H) h⟩
/-- what is raised: the class, the index -/
def ErrAt (C : Addr) (E : XK) (H : Hp) (i : Int) : Prop := ∀ H' d, Same H H' → H' d = none → E (.ref C) (some d) (upd H' d (.xd [(("at" : Str), .int i)]))
/-- modes: what may be told of them -/
def spModes (K : PySem.W.Frag) (C : Addr) : Sp := fun vs H Q E => ∃ (x : V) (o : Option (List V)), vs = [x] ∧ SqX K H x o ∧
  (o = none → ErrAt C E H 0) ∧ (o = some [] → ErrAt C E H 0) ∧
  ∀ xs, o = some xs → xs ≠ [] → ∃ os, Paired (Kin K H) xs os ∧
    (∀ (i : Nat) o, os[i]? = some o → (∀ j o', j < i → os[j]? = some o' → bel4 o' = true) → bel4 o = false → ErrAt C E H i) ∧
    ((∀ o ∈ os, bel4 o = true) → ∀ H' p, Same H H' → Tup H' p xs → Q (.ref p) H')
theorem paired_get {α β : Type} {F : α → β → Prop} {l : List α} {m : List β} (h : Paired F l m) : ∀ {i : Nat} {x : α}, l[i]? = some x → ∃ y, m[i]? = some y ∧ F x y := by
  induction h with
  | nil => intro i x e; simp at e
  | @cons a b l m hab t ih =>
    intro i x e
    cases i with
    | zero => simp at e; subst e; exact ⟨b, by simp, hab⟩
    | succ j => simp at e; obtain ⟨y, h1, h2⟩ := ih e; exact ⟨y, by simpa using h1, h2⟩
theorem paired_len {α β : Type} {F : α → β → Prop} {l : List α} {m : List β} (h : Paired F l m) : l.length = m.length := by
  induction h with
  | nil => rfl
  | cons _ _ ih => simp [ih]
section
variable {P : Program} {w : World} {K : PySem.W.Frag} {mg : Str → Option Value} {base : Heap} (T : TX K mg)
end
end K03

namespace K03
open PySem PySem.Spec PyProof.Rows L2 KX
local macro_rules | `(tactic| walk_at "rd1") => `(tactic| first
  | with_reducible refine rd_seq ?_
  | with_reducible refine rd_asg ?_
  | ((with_reducible refine' rd_var ?rdv ?_); (case rdv => exact rfl))
  | with_reducible refine rd_c ?_
  | with_reducible refine rd_op ?_
  | with_reducible refine rd_un ?_
  | with_reducible refine rd_cons ?_
  | with_reducible refine rd_nil ?_
  | with_reducible refine rd_call ?_
  | with_reducible refine rd_cb ?_
  | with_reducible refine rd_tB ?_
  | with_reducible refine rd_test ?_
  | with_reducible refine rd_bl ?_
  | with_reducible refine rd_rI0 ?_
  | with_reducible refine rd_eqI ?_
  | with_reducible refine rd_neI ?_
  | with_reducible refine rd_rU ?_
  | with_reducible refine rd_name ?_
  | with_reducible refine rd_ifs ?_
  | with_reducible refine rd_and ?_
  | with_reducible refine rd_or ?_
  | with_reducible refine rd_not ?_
  | with_reducible refine rd_yes ?_
  | with_reducible refine rd_andV ?_
  | with_reducible refine rd_orV ?_
  | with_reducible refine rd_notV ?_
  | with_reducible refine rd_if ?_
  | with_reducible refine rd_isN ?_
  | with_reducible refine rd_iT ?_
  | with_reducible refine rd_iF ?_
  | with_reducible refine rd_ret ?_
  | with_reducible refine rd_retN ?_
  | with_reducible refine rd_drop ?_
  | with_reducible refine rd_next ?_
  | with_reducible refine rd_cont ?_
  | with_reducible refine rd_brk ?_
  | with_reducible refine rd_nx ?_
  | with_reducible refine rd_rt ?_
  | with_reducible refine rd_ct ?_
  | with_reducible refine rd_bk ?_
  | with_reducible refine rd_par ?_
  | with_reducible refine rd_par3 ?_
  | with_reducible refine rd_par2 ?_
  | with_reducible refine rd_par33 ?_
  | with_reducible refine rd_gcons ?_
  | with_reducible refine rd_gnil ?_
  | with_reducible refine rd_sub ?_
  | with_reducible refine rd_tup ?_
  | with_reducible refine rd_lst ?_
  | ((with_reducible refine rd_tupT ?hl ?_); (case hl => exact Nat.le_of_ble_eq_true rfl))
  | ((with_reducible refine rd_lstT ?hl ?_); (case hl => exact Nat.le_of_ble_eq_true rfl))
  | with_reducible refine rd_bm ?_
  | with_reducible refine rd_bm0 ?_
  | with_reducible refine rd_sl ?_
  | with_reducible refine rd_noP ?_
  | with_reducible refine rd_part ?_
  | with_reducible refine rd_int ?_
  | with_reducible refine rd_int1 ?_
  | with_reducible refine rd_fld ?_
  | with_reducible refine rd_then ?_
  | with_reducible refine rd_raise ?_
  | with_reducible refine rd_one ?_
  | with_reducible refine rd_sfld ?_
  | with_reducible refine rd_ilist ?_
  | with_reducible refine rd_itup ?_
  | with_reducible refine rd_rng1 ?_
  | with_reducible refine rd_enum ?_
  | with_reducible refine rd_enumT ?_)
local macro_rules | `(tactic| walk_at "rd") => `(tactic| repeat (walk_at "rd1"))
theorem Same.put {H H' : Hp} {D : Addr} {o : HO} (s : Same H H') (n : H D = none) : Same H (L2.upd H' D o) := fun c u h => by
  rw [upd_ne (fun z => by rw [z, n] at h; cases h)]
  exact s c u h
/-- a row sorted, as a tuple -/
def SrtAt (H : Hp) (q : Addr) (row : List Int) : Prop := ∃ ns : List Int, ns.Perm row ∧ ns.Pairwise (· ≤ ·) ∧ Tup H q (ns.map V.int)
theorem SrtAt.same {H H' : Hp} {q : Addr} {row : List Int} (h : SrtAt H q row) (s : Same H H') : SrtAt H' q row := by
  obtain ⟨ns, a, b, c⟩ := h
  exact ⟨ns, a, b, c.same s⟩
theorem paired_mono {α β : Type} {F G : α → β → Prop} {l : List α} {m : List β} (h : Paired F l m) (f : ∀ a b, F a b → G a b) : Paired G l m := by
  induction h with
  | nil => exact .nil
  | cons a _ ih => exact .cons (f _ _ a) ih
def emptyR (n : Nat) : List (List Int) := List.replicate n []
/-- all rows hold four at most -/
def Le4 (R : List (List Int)) : Prop := ∀ row ∈ R, row.length ≤ 4
def spLinks (K : PySem.W.Frag) (C : Addr) : Sp := fun vs H Q E => ∃ (n : Nat) (z : V) (o : Option (List V)), vs = [.int (n : Nat), z] ∧ n < 1000 ∧ SqX K H z o ∧
  (o = none → ErrAt C E H n) ∧
  ∀ xs, o = some xs → ∃ es, Paired (LkIs K H n) xs es ∧
    (∀ (i : Nat) e R, es[i]? = some e → runP (emptyR n) (es.take i) = some R → okL R e = false → ErrAt C E H (n + i)) ∧
    (∀ R, runP (emptyR n) es = some R → R.length = n → Le4 R → ∀ H' p ps, Same H H' → H' p = some (.tup (ps.map V.ref)) → Paired (SrtAt H') ps R → Q (.ref p) H')
theorem runP_snoc : ∀ (es : List (Option (Int × Int))) (R : List (List Int)) (e : Option (Int × Int)), runP R (es ++ [e]) = (runP R es).bind fun R' => stepL R' e
  | [], R, e => by
    show (stepL R e).bind (fun R' => some R') = stepL R e
    cases stepL R e <;> rfl
  | f :: es, R, e => by
    show (stepL R f).bind (fun R' => runP R' (es ++ [e])) = ((stepL R f).bind fun R' => runP R' es).bind fun R' => stepL R' e
    cases h : stepL R f with
    | none => rfl
    | some R' => exact runP_snoc es R' e
theorem appR_len (R : List (List Int)) (a b : Int) : (appR R a b).length = R.length := by unfold appR; simp
theorem addR_len (R : List (List Int)) (e : Option (Int × Int)) : (addR R e).length = R.length := by
  cases e with
  | none => rfl
  | some p => obtain ⟨a, b⟩ := p; show (appR (appR R a b) b a).length = _; rw [appR_len, appR_len]
theorem stepL_some {R R' : List (List Int)} {e : Option (Int × Int)} (h : stepL R e = some R') : okL R e = true ∧ R' = addR R e := by
  unfold stepL at h
  by_cases z : okL R e = true
  · rw [if_pos z] at h
    exact ⟨z, (Option.some.inj h).symm⟩
  · rw [if_neg z] at h; cases h
theorem rowOf_mem {R : List (List Int)} {a : Int} : rowOf R a = [] ∨ rowOf R a ∈ R := by
  unfold rowOf
  by_cases h : a.toNat < R.length
  · right
    rw [List.getD_eq_getElem?_getD, List.getElem?_eq_getElem h]
    exact List.getElem_mem h
  · left
    rw [List.getD_eq_getElem?_getD, List.getElem?_eq_none (by omega)]
    rfl
theorem rowOf_app {R : List (List Int)} {a b c : Int} (ne : a.toNat ≠ c.toNat) : rowOf (appR R a b) c = rowOf R c := by
  unfold rowOf appR
  rw [List.getD_eq_getElem?_getD, List.getD_eq_getElem?_getD, List.getElem?_set_ne ne]
theorem rowOf_app_self {R : List (List Int)} {a b : Int} (h : a.toNat < R.length) : rowOf (appR R a b) a = rowOf R a ++ [b] := by
  show (List.set R a.toNat (rowOf R a ++ [b])).getD a.toNat [] = rowOf R a ++ [b]
  rw [List.getD_eq_getElem?_getD, List.getElem?_set_self h]; rfl
theorem Le4.app {R : List (List Int)} {a b : Int} (h : Le4 R) (l : (rowOf R a).length < 4) : Le4 (appR R a b) := fun row hr => by
  rcases List.mem_or_eq_of_mem_set hr with z | z
  · exact h row z
  · rw [z, List.length_append]; exact l
theorem Le4.step {R R' : List (List Int)} {e : Option (Int × Int)} (hR : Le4 R) (hne : ∀ a b, e = some (a, b) → a.toNat ≠ b.toNat) (h : stepL R e = some R') : Le4 R' := by
  obtain ⟨ok, rfl⟩ := stepL_some h
  match e, ok, hne with
  | none, ok, _ => exact hR
  | some (a, b), ok, hne =>
    have ok : (!decide (b ∈ rowOf R a) && (decide ((rowOf R a).length < 4) && decide ((rowOf R b).length < 4))) = true := ok
    simp only [Bool.and_eq_true, decide_eq_true_eq] at ok
    refine (hR.app (b := b) ok.2.1).app (b := a) ?_
    rw [rowOf_app (hne a b rfl)]
    exact ok.2.2
theorem Rows.app {H : Hp} {N : Addr} {rs : List Addr} {R : List (List Int)} (h : Rows H N rs R) {a b : Int} {r : Addr} (hr : rs[a.toNat]? = some r) :
    Rows (upd H r (.lst ((rowOf R a).map V.int ++ [.int b]))) N rs (appR R a b) := by
  have mem : r ∈ rs := List.mem_of_getElem? hr
  refine ⟨by rw [upd_ne (fun z => h.out (by rw [z]; exact mem))]; exact h.at_, ?_, h.nd, h.out⟩
  have e0 : (rowOf R a).map V.int ++ [V.int b] = (rowOf R a ++ [b]).map V.int := by simp
  rw [e0]
  have gen : ∀ {l : List Addr} {m : List (List Int)} (k : Nat) (row : List Int), Paired (fun r (row : List Int) => H r = some (.lst (row.map V.int))) l m → l.Nodup → l[k]? = some r →
      Paired (fun q (row' : List Int) => upd H r (.lst (row.map V.int)) q = some (.lst (row'.map V.int))) l (m.set k row) := by
    intro l m k row p
    induction p generalizing k with
    | nil => intro _ z; simp at z
    | @cons x y l m hxy q ih =>
      intro nd z
      have nd' := (List.nodup_cons.mp nd)
      cases k with
      | zero =>
        simp at z
        subst z
        refine .cons (by show upd H x _ x = _; rw [upd_same]) ?_
        have gen2 : ∀ {l : List Addr} {m : List (List Int)}, Paired (fun r (row : List Int) => H r = some (.lst (row.map V.int))) l m → x ∉ l → Paired (fun q (row' : List Int) => upd H x (.lst (row.map V.int)) q = some (.lst (row'.map V.int))) l m := by
          intro l m p
          induction p with
          | nil => intro _; exact .nil
          | @cons u v l m huv _ ih2 =>
            intro hx
            refine .cons ?_ (ih2 fun z => hx (List.mem_cons_of_mem _ z))
            show upd H x _ u = _
            rw [upd_ne (fun z => hx (by rw [z]; exact List.mem_cons_self))]
            exact huv
        exact gen2 q nd'.1
      | succ j =>
        simp at z
        refine .cons ?_ (ih j nd'.2 z)
        show upd H r _ x = _
        rw [upd_ne (fun e => nd'.1 (by rw [e]; exact List.mem_of_getElem? z))]
        exact hxy
  exact gen a.toNat (rowOf R a ++ [b]) h.rows h.nd hr
section
variable {P : Program} {w : World} {K : PySem.W.Frag} {mg : Str → Option Value} {base : Heap} (T : TX K mg)
end
end K03

namespace K03
open PySem PySem.Spec PyProof.Rows L2 KX
local macro_rules | `(tactic| walk_at "rd1") => `(tactic| first
  | with_reducible refine rd_seq ?_
  | with_reducible refine rd_asg ?_
  | ((with_reducible refine' rd_var ?rdv ?_); (case rdv => exact rfl))
  | with_reducible refine rd_c ?_
  | with_reducible refine rd_op ?_
  | with_reducible refine rd_un ?_
  | with_reducible refine rd_cons ?_
  | with_reducible refine rd_nil ?_
  | with_reducible refine rd_call ?_
  | with_reducible refine rd_cb ?_
  | with_reducible refine rd_tB ?_
  | with_reducible refine rd_test ?_
  | with_reducible refine rd_bl ?_
  | with_reducible refine rd_rI0 ?_
  | with_reducible refine rd_eqI ?_
  | with_reducible refine rd_neI ?_
  | with_reducible refine rd_rU ?_
  | with_reducible refine rd_name ?_
  | with_reducible refine rd_ifs ?_
  | with_reducible refine rd_and ?_
  | with_reducible refine rd_or ?_
  | with_reducible refine rd_not ?_
  | with_reducible refine rd_yes ?_
  | with_reducible refine rd_andV ?_
  | with_reducible refine rd_orV ?_
  | with_reducible refine rd_notV ?_
  | with_reducible refine rd_if ?_
  | with_reducible refine rd_isN ?_
  | with_reducible refine rd_iT ?_
  | with_reducible refine rd_iF ?_
  | with_reducible refine rd_ret ?_
  | with_reducible refine rd_retN ?_
  | with_reducible refine rd_drop ?_
  | with_reducible refine rd_next ?_
  | with_reducible refine rd_cont ?_
  | with_reducible refine rd_brk ?_
  | with_reducible refine rd_nx ?_
  | with_reducible refine rd_rt ?_
  | with_reducible refine rd_ct ?_
  | with_reducible refine rd_bk ?_
  | with_reducible refine rd_par ?_
  | with_reducible refine rd_par3 ?_
  | with_reducible refine rd_par2 ?_
  | with_reducible refine rd_par33 ?_
  | with_reducible refine rd_gcons ?_
  | with_reducible refine rd_gnil ?_
  | with_reducible refine rd_sub ?_
  | with_reducible refine rd_tup ?_
  | with_reducible refine rd_lst ?_
  | ((with_reducible refine rd_tupT ?hl ?_); (case hl => exact Nat.le_of_ble_eq_true rfl))
  | ((with_reducible refine rd_lstT ?hl ?_); (case hl => exact Nat.le_of_ble_eq_true rfl))
  | with_reducible refine rd_bm ?_
  | with_reducible refine rd_bm0 ?_
  | with_reducible refine rd_sl ?_
  | with_reducible refine rd_noP ?_
  | with_reducible refine rd_part ?_
  | with_reducible refine rd_int ?_
  | with_reducible refine rd_int1 ?_
  | with_reducible refine rd_fld ?_
  | with_reducible refine rd_then ?_
  | with_reducible refine rd_raise ?_
  | with_reducible refine rd_one ?_
  | with_reducible refine rd_sfld ?_
  | with_reducible refine rd_ilist ?_
  | with_reducible refine rd_itup ?_
  | with_reducible refine rd_rng1 ?_
  | with_reducible refine rd_enum ?_
  | with_reducible refine rd_enumT ?_)
local macro_rules | `(tactic| walk_at "rd") => `(tactic| repeat (walk_at "rd1"))
/-- a walk in a comprehension, from any start -/
theorem it_wk {J : It} {n : Nat} {G : Hp → Prop} {Y : Nat → Hp → V → Hp → Prop} (w : Walk J n G Y) {T : V → Hp → (Hp → Prop) → Prop} {Qd : Hp → Prop} {H0 : Hp}
    (Pv : Nat → Hp → Prop) (h0 : Pv 0 H0) (hG : ∀ i H, i ≤ n → Pv i H → G H)
    (hs : ∀ i x H H', i < n → Pv i H → Y i H x H' → T x H' (Pv (i + 1))) (hd : ∀ H, Pv n H → Qd H) :
    ∃ W : Nat → Nat → Hp → Prop, (∃ m, W 0 m H0) ∧ ∀ i m H, W i m H →
      (J.stop i H ∧ Qd H) ∨ (J.go i H ∧ ∃ Nx : Hp → Prop, (∀ H', Nx H' → ∃ m', m' < m ∧ W (i + 1) m' H') ∧ ∀ x H', J.yld i H x H' → T x H' Nx) := by
  refine ⟨fun i m H => m = n - i ∧ i ≤ n ∧ Pv i H, ⟨n, by simp, Nat.zero_le _, h0⟩, ?_⟩
  rintro i m H ⟨rfl, hi, p⟩
  have q := hG i H hi p
  by_cases hlt : i < n
  · exact Or.inr ⟨w.goes i H hlt q, Pv (i + 1), fun H' z => ⟨n - (i + 1), by omega, rfl, hlt, z⟩, fun x H' y => hs i x H H' hlt p (w.yields i H x H' hlt q y)⟩
  · have e : i = n := by omega
    subst e
    exact Or.inl ⟨w.stops H q, hd H p⟩
/-! ### what is no instance stays -/
def Sn (H H' : Hp) : Prop := ∀ a o, (∀ C dx fs, o ≠ .ins C dx fs) → H a = some o → H' a = some o
theorem Sn.same {H H' : Hp} (s : Same H H') : Sn H H' := fun a o _ h => s a o h
theorem Sn.trans {H H1 H2 : Hp} (a : Sn H H1) (b : Sn H1 H2) : Sn H H2 := fun c o n h => b c o n (a c o n h)
theorem tyx_sn {K : PySem.W.Frag} {H H' : Hp} {x : V} {n : String} (h : TyX K H x (.type n)) (s : Sn H H') : TyX K H' x (.type n) := by
  cases h with
  | base h =>
    refine .base ?_
    cases h with
    | lst e => exact .lst (s _ _ (fun _ _ _ z => nomatch z) e)
    | frz e => exact .frz (s _ _ (fun _ _ _ z => nomatch z) e)
    | tup e => exact .tup (s _ _ (fun _ _ _ z => nomatch z) e)
    | dK e => exact .dK (s _ _ (fun _ _ _ z => nomatch z) e)
    | dT e => exact .dT (s _ _ (fun _ _ _ z => nomatch z) e)
    | _ => constructor
  | byt b => exact .byt b
  | set e => exact .set (s _ _ (fun _ _ _ z => nomatch z) e)
  | kList e c => exact .kList e c
  | kTuple e c => exact .kTuple e c
  | kDict e c => exact .kDict e c
  | fTuple e => exact .fTuple (s _ _ (fun _ _ _ z => nomatch z) e)
  | fDict e => exact .fDict (s _ _ (fun _ _ _ z => nomatch z) e)
theorem tup_sn {H H' : Hp} {a : Addr} {xs : List V} (h : Tup H a xs) (s : Sn H H') : Tup H' a xs := by
  rcases h with h | ⟨o, h⟩
  · exact Or.inl (s _ _ (fun _ _ _ z => nomatch z) h)
  · exact Or.inr ⟨o, s _ _ (fun _ _ _ z => nomatch z) h⟩
theorem kin_sn {K : PySem.W.Frag} {H H' : Hp} {x : V} {o : Option Int} (h : Kin K H x o) (s : Sn H H') : Kin K H' x o := by
  cases h with
  | int i => exact .int i
  | oth t h1 h2 h3 => exact .oth (tyx_sn t s) h1 h2 h3
theorem sqx_sn {K : PySem.W.Frag} {H H' : Hp} {x : V} {o : Option (List V)} (h : SqX K H x o) (s : Sn H H') : SqX K H' x o := by
  cases h with
  | lst h => exact .lst (s _ _ (fun _ _ _ z => nomatch z) h)
  | tup h => exact .tup (tup_sn h s)
  | oth t h1 h2 => exact .oth (tyx_sn t s) h1 h2
theorem lk_sn {K : PySem.W.Frag} {H H' : Hp} {n : Nat} {x : V} {e : Option (Int × Int)} (h : LkIs K H n x e) (s : Sn H H') : LkIs K H' n x e := by
  cases h with
  | seq h => exact .seq (sqx_sn h s)
  | len h l => exact .len (sqx_sn h s) l
  | fst h k b => exact .fst (sqx_sn h s) (kin_sn k s) b
  | snd h k k' b => exact .snd (sqx_sn h s) (kin_sn k s) (kin_sn k' s) b
  | eq h a b => exact .eq (sqx_sn h s) a b
  | ok h a b c d e => exact .ok (sqx_sn h s) a b c d e
/-- all but s stays -/
def Ex (s : Addr) (H H' : Hp) : Prop := ∀ a o, a ≠ s → H a = some o → H' a = some o
theorem Ex.same {s : Addr} {H H' : Hp} (h : Same H H') : Ex s H H' := fun a o _ e => h a o e
theorem Ex.trans {s : Addr} {H H1 H2 : Hp} (a : Ex s H H1) (b : Ex s H1 H2) : Ex s H H2 := fun c o n h => b c o n (a c o n h)
theorem Ex.upd {s : Addr} {H : Hp} {o : HO} : Ex s H (upd H s o) := fun a u n h => by rw [upd_ne n]; exact h
theorem Ex.sn {s C dx : Addr} {fs : List (Str × V)} {H H' : Hp} (h : Ex s H H') (hs : H s = some (.ins C dx fs)) : Sn H H' := fun a o n e =>
  h a o (fun z => by rw [z, hs] at e; exact n _ _ _ (Option.some.inj e).symm) e
def ErrX (CI : Addr) (E : XK) (s : Addr) (H : Hp) (i : Int) : Prop := ∀ H' d, Ex s H H' → H' d = none → E (.ref CI) (some d) (upd H' d (.xd [(("at" : Str), .int i)]))
/-! ### the links of the rows -/
def rowE (k : Nat) (row : List Int) : List (Int × Int) := (row.filter fun j => decide ((k : Int) < j)).map fun j => ((k : Int), j)
def edgesFrom (k : Nat) : List (List Int) → List (Int × Int)
  | [] => []
  | row :: rest => rowE k row ++ edgesFrom (k + 1) rest
theorem edges_snoc : ∀ (l : List (List Int)) (k : Nat) (r : List Int), edgesFrom k (l ++ [r]) = edgesFrom k l ++ rowE (k + l.length) r
  | [], k, r => by simp [edgesFrom]
  | x :: l, k, r => by
    show rowE k x ++ edgesFrom (k + 1) (l ++ [r]) = (rowE k x ++ edgesFrom (k + 1) l) ++ rowE (k + (l.length + 1)) r
    rw [edges_snoc l (k + 1) r, List.append_assoc]
    have e : k + 1 + l.length = k + (l.length + 1) := by omega
    rw [e]
theorem edges_take (Ns : List (List Int)) {i : Nat} {r : List Int} (h : Ns[i]? = some r) : edgesFrom 0 (Ns.take (i + 1)) = edgesFrom 0 (Ns.take i) ++ rowE i r := by
  have hi := (List.getElem?_eq_some_iff.mp h).1
  rw [List.take_succ, h]
  show edgesFrom 0 (Ns.take i ++ [r]) = _
  rw [edges_snoc]
  have e : 0 + (Ns.take i).length = i := by rw [List.length_take]; omega
  rw [e]
theorem rowE_take (k : Nat) {ns : List Int} {j : Nat} {y : Int} (h : ns[j]? = some y) : rowE k (ns.take (j + 1)) = rowE k (ns.take j) ++ (if decide ((k : Int) < y) = true then [((k : Int), y)] else []) := by
  rw [List.take_succ, h]
  unfold rowE
  rw [List.filter_append, List.map_append]
  congr 1
  by_cases z : (k : Int) < y <;> simp [z]
theorem rowE_len (k : Nat) (ns : List Int) : (rowE k ns).length ≤ ns.length := by
  unfold rowE
  rw [List.length_map]
  exact List.length_filter_le _ _
theorem edges_len : ∀ (k : Nat) (R : List (List Int)), (∀ row ∈ R, row.length ≤ 4) → (edgesFrom k R).length ≤ 4 * R.length
  | k, [], _ => Nat.le_refl _
  | k, r :: R, h => by
    have h1 := edges_len (k + 1) R fun row hr => h row (List.mem_cons_of_mem _ hr)
    have h2 := rowE_len k r
    have h3 := h r List.mem_cons_self
    show (rowE k r ++ edgesFrom (k + 1) R).length ≤ 4 * (R.length + 1)
    rw [List.length_append]
    omega
def RowT (H : Hp) (q : Addr) (ns : List Int) : Prop := Tup H q (ns.map V.int)
def PairAt (H : Hp) (q : Addr) (e : Int × Int) : Prop := H q = some (.tup [.int e.1, .int e.2])
theorem dp_pair {K : PySem.W.Frag} {H : Hp} {q : Addr} {e : Int × Int} (h : PairAt H q e) : Dp K H (.ref q) (dP e) := .tup (SqT.of h) (.cons (.int _) (.cons (.int _) .nil))
theorem dp_pairs {K : PySem.W.Frag} {H : Hp} {ps : List Addr} {L : List (Int × Int)} (h : Paired (PairAt H) ps L) : DpAll K H (ps.map V.ref) (L.map dP) := by
  induction h with
  | nil => exact .nil
  | cons a _ ih => exact .cons (dp_pair a) ih
/-- a network stands at p: the modes ms, the sorted rows R, the links L -/
structure NetAt (C : Addr) (H : Hp) (p : Addr) (ms : List Int) (R : List (List Int)) (L : List (Int × Int)) : Prop where
  ob : ∃ dx pm pn pl qs ps, H p = some (.ins C dx (putF "links" (.ref pl) (putF "_near" (.ref pn) (putF "modes" (.ref pm) [])))) ∧
    Tup H pm (ms.map V.int) ∧ H pn = some (.tup (qs.map V.ref)) ∧ Paired (RowT H) qs R ∧ H pl = some (.tup (ps.map V.ref)) ∧ Paired (PairAt H) ps L
theorem k_nm : ¬ (("_near" : Str) = "modes") := by decide +kernel
theorem k_lm : ¬ (("links" : Str) = "modes") := by decide +kernel
theorem k_ln : ¬ (("links" : Str) = "_near") := by decide +kernel
theorem look_modes {a b c : V} : (putF "links" a (putF "_near" b (putF "modes" c []))).lookup ("modes" : Str) = some c := by
  rw [lookup_putF, if_neg (fun z => k_lm z.symm), lookup_putF, if_neg (fun z => k_nm z.symm), lookup_putF, if_pos rfl]
theorem look_links {a b c : V} : (putF "links" a (putF "_near" b (putF "modes" c []))).lookup ("links" : Str) = some a := by
  rw [lookup_putF, if_pos rfl]
theorem look_near {a b c : V} : (putF "links" a (putF "_near" b (putF "modes" c []))).lookup ("_near" : Str) = some b := by
  rw [lookup_putF, if_neg (fun z => k_ln z.symm), lookup_putF, if_pos rfl]
/-- sorted rows: what linked_sites makes of rows -/
def spNet (K : PySem.W.Frag) (C CI : Addr) : Sp := fun vs H Q E => ∃ (s dx : Addr) (x z : V) (o : Option (List V)), vs = [.ref s, x, z] ∧ H s = some (.ins C dx []) ∧ SqX K H x o ∧
  (o = none → ErrX CI E s H 0) ∧ (o = some [] → ErrX CI E s H 0) ∧
  ∀ xs, o = some xs → xs ≠ [] → ∃ os, Paired (Kin K H) xs os ∧
    (∀ (i : Nat) o, os[i]? = some o → (∀ j o', j < i → os[j]? = some o' → bel4 o' = true) → bel4 o = false → ErrX CI E s H i) ∧
    ((∀ o ∈ os, bel4 o = true) → xs.length < 1000 ∧ ∃ ms : List Int, xs = ms.map V.int ∧ ∃ o2, SqX K H z o2 ∧ (o2 = none → ErrX CI E s H ms.length) ∧
      ∀ zs, o2 = some zs → ∃ es, Paired (LkIs K H ms.length) zs es ∧
        (∀ (i : Nat) e R, es[i]? = some e → runP (emptyR ms.length) (es.take i) = some R → okL R e = false → ErrX CI E s H (ms.length + i)) ∧
        (∀ R, runP (emptyR ms.length) es = some R → Le4 R → ∀ H' R', Ex s H H' → Paired (fun (a b : List Int) => a.Perm b ∧ a.Pairwise (· ≤ ·)) R' R → NetAt C H' s ms R' (edgesFrom 0 R') → Q .non H'))
section
variable {P : Program} {w : World} {K : PySem.W.Frag} {mg : Str → Option Value} {base : Heap} (T : TX K mg)
/-- == of two networks -/
def spEqN (K : PySem.W.Frag) (C : Addr) : Sp := fun vs H Q _ => ∃ (p : Addr) (y : V) (ms : List Int) (R : List (List Int)) (L : List (Int × Int)), vs = [.ref p, y] ∧ NetAt C H p ms R L ∧ ms.length < 1000 ∧ L.length < 1000 ∧
  ((∃ n, TyX K H y (.type n) ∧ PySem.W.kitOne K (.type n) (.ref C) = some false ∧ Q (.bl false) H) ∨
   (∃ q ms' R' L', y = .ref q ∧ NetAt C H q ms' R' L' ∧ ms'.length < 1000 ∧ L'.length < 1000 ∧ Q (.bl (decide (ms = ms') && decide (L = L'))) H))
end
end K03

namespace K03
open PySem PySem.Spec PyProof.Rows L2 KX
/-! ### lists of links -/
/-- whether a link meets a site -/
def inc (s : Int) (e : Int × Int) : Bool := decide (e.1 = s) || decide (e.2 = s)
def norm (e : Int × Int) : Int × Int := if e.1 ≤ e.2 then e else (e.2, e.1)
/-- the links, the lesser site first, unlike, at most d at a site -/
structure Good (n : Nat) (d : Nat) (L : List (Int × Int)) : Prop where
  rng : ∀ e ∈ L, 0 ≤ e.1 ∧ e.1 < e.2 ∧ e.2 < n
  nd : L.Nodup
  deg : ∀ s : Int, (L.filter (inc s)).length ≤ d
def lexlt (e f : Int × Int) : Prop := e.1 < f.1 ∨ e.1 = f.1 ∧ e.2 < f.2
/-- who is linked to a, in the order of the links, each way round -/
def nb (M : List (Int × Int)) (a : Int) : List Int := M.filterMap fun e => if e.1 = a then some e.2 else if e.2 = a then some e.1 else none
theorem nb_append (M M' : List (Int × Int)) (a : Int) : nb (M ++ M') a = nb M a ++ nb M' a := by unfold nb; exact List.filterMap_append
theorem nb_one (x y a : Int) : nb [(x, y)] a = if x = a then [y] else if y = a then [x] else [] := by
  unfold nb
  by_cases h1 : x = a
  · simp [h1]
  · by_cases h2 : y = a <;> simp [h1, h2]
theorem mem_nb {M : List (Int × Int)} {a b : Int} (h : b ∈ nb M a) : (a, b) ∈ M ∨ (b, a) ∈ M := by
  unfold nb at h
  obtain ⟨⟨x, y⟩, hm, he⟩ := List.mem_filterMap.mp h
  by_cases h1 : x = a
  · simp [h1] at he
    left; rw [← h1, ← he]; exact hm
  · by_cases h2 : y = a
    · simp [h1, h2] at he
      right; rw [← h2, ← he]; exact hm
    · simp [h1, h2] at he
theorem nb_mem {M : List (Int × Int)} {a b : Int} (ne : a ≠ b) (h : (a, b) ∈ M ∨ (b, a) ∈ M) : b ∈ nb M a := by
  unfold nb
  rcases h with h | h
  · exact List.mem_filterMap.mpr ⟨_, h, by simp⟩
  · exact List.mem_filterMap.mpr ⟨_, h, by simp [Ne.symm ne]⟩
/-- the length of the row: how many links meet the site -/
theorem nb_len (M : List (Int × Int)) (a : Int) : (nb M a).length = (M.filter (inc a)).length := by
  induction M with
  | nil => rfl
  | cons e M ih =>
    obtain ⟨x, y⟩ := e
    have h : nb ((x, y) :: M) a = nb [(x, y)] a ++ nb M a := nb_append [(x, y)] M a
    rw [h, nb_one, List.length_append, ih]
    by_cases h1 : x = a
    · simp [inc, h1]; omega
    · by_cases h2 : y = a
      · simp [inc, h1, h2]; omega
      · simp [inc, h1, h2]
theorem inc_norm (a : Int) (e : Int × Int) : inc a (norm e) = inc a e := by
  unfold norm
  split
  · rfl
  · show (decide (e.2 = a) || decide (e.1 = a)) = (decide (e.1 = a) || decide (e.2 = a))
    exact Bool.or_comm _ _
theorem norm_inj {x y u v : Int} (h : norm (x, y) = norm (u, v)) : (x = u ∧ y = v) ∨ (x = v ∧ y = u) := by
  unfold norm at h
  simp only at h
  split at h <;> split at h <;> simp at h <;> omega
/-! ### running through good links -/
theorem addR_nb {n : Nat} {R : List (List Int)} {M : List (Int × Int)} {a b : Int} (l : R.length = n) (hR : ∀ c : Int, 0 ≤ c → c < n → rowOf R c = nb M c) (a0 : 0 ≤ a) (a1 : a < n) (b0 : 0 ≤ b) (b1 : b < n) (ne : a ≠ b) :
    ∀ c : Int, 0 ≤ c → c < n → rowOf (addR R (some (a, b))) c = nb (M ++ [(a, b)]) c := by
  intro c c0 c1
  have h : nb (M ++ [(a, b)]) c = nb M c ++ nb [(a, b)] c := nb_append _ _ _
  rw [h, nb_one]
  show rowOf (appR (appR R a b) b a) c = _
  by_cases ha : a = c
  · subst ha
    rw [if_pos rfl, rowOf_app (by omega), rowOf_app_self (by omega), hR a a0 a1]
  · rw [if_neg ha]
    by_cases hb : b = c
    · subst hb
      rw [if_pos rfl, rowOf_app_self (by rw [appR_len]; omega), rowOf_app (by omega), hR b b0 b1]
    · rw [if_neg hb, rowOf_app (by omega), rowOf_app (by omega), hR c c0 c1, List.append_nil]
/-- the entries in turn: each can be linked behind those before -/
def Runs (n : Nat) (M : List (Int × Int)) : Prop := ∀ (i : Nat) (e : Int × Int), M[i]? = some e →
  0 ≤ e.1 ∧ e.1 < n ∧ 0 ≤ e.2 ∧ e.2 < n ∧ e.1 ≠ e.2 ∧ e.2 ∉ nb (M.take i) e.1 ∧ (nb (M.take i) e.1).length < 4 ∧ (nb (M.take i) e.2).length < 4
theorem rowOf_empty (n : Nat) (c : Int) : rowOf (emptyR n) c = [] := by
  unfold rowOf emptyR
  rw [List.getD_eq_getElem?_getD, List.getElem?_replicate]
  split <;> rfl
theorem runs_nb {n : Nat} {M : List (Int × Int)} (h : Runs n M) : ∀ i, i ≤ M.length → ∃ R, runP (emptyR n) ((M.take i).map some) = some R ∧ R.length = n ∧ ∀ c : Int, 0 ≤ c → c < n → rowOf R c = nb (M.take i) c := by
  intro i
  induction i with
  | zero => intro _; exact ⟨emptyR n, rfl, by simp [emptyR], fun c _ _ => by rw [rowOf_empty]; rfl⟩
  | succ i ih =>
    intro hi
    obtain ⟨R, hR, hl, hr⟩ := ih (by omega)
    obtain ⟨e, he⟩ : ∃ e, M[i]? = some e := ⟨_, List.getElem?_eq_getElem (by omega)⟩
    obtain ⟨a, b⟩ := e
    obtain ⟨a0, a1, b0, b1, ne, h1, h2, h3⟩ := h i _ he
    have et : M.take (i + 1) = M.take i ++ [(a, b)] := by rw [List.take_succ, he]; rfl
    have ok : okL R (some (a, b)) = true := by
      show (!decide (b ∈ rowOf R a) && (decide ((rowOf R a).length < 4) && decide ((rowOf R b).length < 4))) = true
      rw [hr a a0 a1, hr b b0 b1, decide_eq_false h1, decide_eq_true h2, decide_eq_true h3]; rfl
    refine ⟨addR R (some (a, b)), ?_, by rw [addR_len]; exact hl, ?_⟩
    · rw [et, List.map_append]
      show runP (emptyR n) ((M.take i).map some ++ [some (a, b)]) = _
      rw [runP_snoc, hR]
      show stepL R (some (a, b)) = _
      unfold stepL
      rw [if_pos ok]
    · rw [et]
      exact addR_nb hl hr a0 a1 b0 b1 ne
theorem filter_len_le {M : List (Int × Int)} {p : Int × Int → Bool} {i : Nat} {e : Int × Int} (h : M[i]? = some e) (hp : p e = true) : ((M.take i).filter p).length < (M.filter p).length := by
  have hi := (List.getElem?_eq_some_iff.mp h).1
  have e1 : M = M.take (i + 1) ++ M.drop (i + 1) := (List.take_append_drop _ _).symm
  have et : M.take (i + 1) = M.take i ++ [e] := by rw [List.take_succ, h]; rfl
  have z : (M.filter p).length = ((M.take (i + 1)).filter p).length + ((M.drop (i + 1)).filter p).length := by
    have e2 : M.filter p = (M.take (i + 1)).filter p ++ (M.drop (i + 1)).filter p := by
      rw [← List.filter_append, List.take_append_drop]
    rw [e2, List.length_append]
  rw [z, et, List.filter_append, List.length_append]
  simp [hp]
  omega
theorem perm_filter_len {L M : List (Int × Int)} (h : L.Perm M) (p : Int × Int → Bool) : (L.filter p).length = (M.filter p).length := (h.filter p).length_eq
theorem map_norm_filter (M : List (Int × Int)) (a : Int) : ((M.map norm).filter (inc a)).length = (M.filter (inc a)).length := by
  rw [List.filter_map, List.length_map]
  have e : (inc a ∘ norm) = inc a := funext fun x => inc_norm a x
  rw [e]
/-- links, each way round, in any order -/
theorem runs_of {n : Nat} {L M : List (Int × Int)} (g : Good n 4 L) (h : (M.map norm).Perm L) : Runs n M := by
  intro i e he
  have hm := List.mem_of_getElem? he
  have hi := (List.getElem?_eq_some_iff.mp he).1
  have hn : norm e ∈ L := h.mem_iff.mp (List.mem_map.mpr ⟨e, hm, rfl⟩)
  obtain ⟨r0, r1, r2⟩ := g.rng _ hn
  obtain ⟨x, y⟩ := e
  have rr : 0 ≤ x ∧ x < n ∧ 0 ≤ y ∧ y < n ∧ x ≠ y := by
    unfold norm at r0 r1 r2
    simp only at r0 r1 r2
    split at r0 <;> simp_all <;> omega
  obtain ⟨a0, a1, b0, b1, ne⟩ := rr
  refine ⟨a0, a1, b0, b1, ne, fun hb => ?_, ?_, ?_⟩
  · -- twice the same link
    have nd : (M.map norm).Nodup := h.nodup_iff.mpr g.nd
    have : ∃ f ∈ M.take i, norm f = norm (x, y) := by
      rcases mem_nb hb with z | z
      · exact ⟨_, z, rfl⟩
      · refine ⟨_, z, ?_⟩
        unfold norm
        simp only
        split <;> split <;> simp <;> omega
    obtain ⟨f, hf, hff⟩ := this
    obtain ⟨j, hj⟩ := List.getElem?_of_mem hf
    have hji : j < i := by
      have := (List.getElem?_eq_some_iff.mp hj).1
      rw [List.length_take] at this
      omega
    rw [List.getElem?_take_of_lt hji] at hj
    have e1 : (M.map norm)[j]? = some (norm (x, y)) := by rw [List.getElem?_map, hj]; simp [hff]
    have e2 : (M.map norm)[i]? = some (norm (x, y)) := by rw [List.getElem?_map, he]; rfl
    have := (List.getElem?_inj (by rw [List.length_map]; omega) nd).mp (e1.trans e2.symm)
    omega
  · rw [nb_len]
    show ((M.take i).filter (inc x)).length < 4
    have h1 := filter_len_le (p := inc x) he (by simp [inc])
    have h2 := map_norm_filter M x
    have h3 := perm_filter_len h (inc x)
    have h4 := g.deg x
    omega
  · rw [nb_len]
    show ((M.take i).filter (inc y)).length < 4
    have h1 := filter_len_le (p := inc y) he (by simp [inc])
    have h2 := map_norm_filter M y
    have h3 := perm_filter_len h (inc y)
    have h4 := g.deg y
    omega
/-! ### the links of the sorted rows -/
theorem lex_uniq : ∀ {L M : List (Int × Int)}, L.Pairwise lexlt → M.Pairwise lexlt → (∀ e, e ∈ L ↔ e ∈ M) → L = M
  | [], [], _, _, _ => rfl
  | [], m :: M, _, _, h => by have := (h m).mpr List.mem_cons_self; simp at this
  | l :: L, [], _, _, h => by have := (h l).mp List.mem_cons_self; simp at this
  | l :: L, m :: M, hl, hm, h => by
    obtain ⟨l1, l2⟩ := List.pairwise_cons.mp hl
    obtain ⟨m1, m2⟩ := List.pairwise_cons.mp hm
    have e : l = m := by
      rcases List.mem_cons.mp ((h l).mp List.mem_cons_self) with z | z
      · exact z
      · rcases List.mem_cons.mp ((h m).mpr List.mem_cons_self) with y | y
        · exact y.symm
        · have a := m1 l z
          have b := l1 m y
          exfalso
          unfold lexlt at a b
          omega
    subst e
    have : L = M := lex_uniq l2 m2 fun e => by
      constructor
      · intro he
        rcases List.mem_cons.mp ((h e).mp (List.mem_cons_of_mem _ he)) with z | z
        · exfalso
          have := l1 e he
          rw [z] at this
          unfold lexlt at this
          omega
        · exact z
      · intro he
        rcases List.mem_cons.mp ((h e).mpr (List.mem_cons_of_mem _ he)) with z | z
        · exfalso
          have := m1 e he
          rw [z] at this
          unfold lexlt at this
          omega
        · exact z
    rw [this]
theorem mem_edges : ∀ (R : List (List Int)) (k : Nat) (e : Int × Int), e ∈ edgesFrom k R ↔ ∃ (i : Nat) (row : List Int), R[i]? = some row ∧ e.1 = ((k + i : Nat) : Int) ∧ e.2 ∈ row ∧ e.1 < e.2
  | [], k, e => by simp [edgesFrom]
  | r :: R, k, e => by
    have ih := mem_edges R (k + 1) e
    show e ∈ rowE k r ++ edgesFrom (k + 1) R ↔ _
    rw [List.mem_append, ih]
    constructor
    · rintro (h | ⟨i, row, h1, h2, h3⟩)
      · unfold rowE at h
        obtain ⟨j, hj, rfl⟩ := List.mem_map.mp h
        obtain ⟨h1, h2⟩ := List.mem_filter.mp hj
        exact ⟨0, r, rfl, by simp, h1, by simpa using h2⟩
      · exact ⟨i + 1, row, by simpa using h1, by rw [h2]; omega, h3⟩
    · rintro ⟨i, row, h1, h2, h3, h4⟩
      cases i with
      | zero =>
        left
        simp at h1
        subst h1
        unfold rowE
        obtain ⟨x, y⟩ := e
        have h2 : x = (k : Int) := by simpa using h2
        subst h2
        exact List.mem_map.mpr ⟨y, List.mem_filter.mpr ⟨h3, by simpa using h4⟩, rfl⟩
      | succ i => exact .inr ⟨i, row, by simpa using h1, by rw [h2]; omega, h3, h4⟩
theorem edges_lex : ∀ (R : List (List Int)) (k : Nat), (∀ row ∈ R, row.Pairwise (· < ·)) → (edgesFrom k R).Pairwise lexlt
  | [], k, _ => .nil
  | r :: R, k, h => by
    show (rowE k r ++ edgesFrom (k + 1) R).Pairwise lexlt
    refine List.pairwise_append.mpr ⟨?_, edges_lex R (k + 1) fun row hr => h row (List.mem_cons_of_mem _ hr), fun a ha b hb => ?_⟩
    · unfold rowE
      refine List.pairwise_map.mpr (List.Pairwise.filter _ ((h r List.mem_cons_self).imp fun hab => .inr ⟨rfl, hab⟩))
    · unfold rowE at ha
      obtain ⟨j, _, rfl⟩ := List.mem_map.mp ha
      obtain ⟨i, row, _, e, _⟩ := (mem_edges R (k + 1) b).mp hb
      left
      show (k : Int) < b.1
      omega
theorem nb_nodup {M : List (Int × Int)} {a : Int} (h : ∀ i e, M[i]? = some e → e.1 ≠ e.2 ∧ e.2 ∉ nb (M.take i) e.1 ∧ e.1 ∉ nb (M.take i) e.2) : (nb M a).Nodup := by
  have gen : ∀ i, i ≤ M.length → (nb (M.take i) a).Nodup := by
    intro i
    induction i with
    | zero => intro _; exact .nil
    | succ i ih =>
      intro hi
      obtain ⟨e, he⟩ : ∃ e, M[i]? = some e := ⟨_, List.getElem?_eq_getElem (by omega)⟩
      obtain ⟨x, y⟩ := e
      obtain ⟨ne, h1, h2⟩ := h i _ he
      have et : M.take (i + 1) = M.take i ++ [(x, y)] := by rw [List.take_succ, he]; rfl
      rw [et, nb_append, nb_one]
      by_cases hx : x = a
      · rw [if_pos hx]
        subst hx
        exact List.nodup_append.mpr ⟨ih (by omega), by simp, fun u hu v hv => by
          rw [List.mem_singleton.mp hv]
          exact fun z => h1 (by rw [← z]; exact hu)⟩
      · rw [if_neg hx]
        by_cases hy : y = a
        · rw [if_pos hy]
          subst hy
          exact List.nodup_append.mpr ⟨ih (by omega), by simp, fun u hu v hv => by
            rw [List.mem_singleton.mp hv]
            exact fun z => h2 (by rw [← z]; exact hu)⟩
        · rw [if_neg hy, List.append_nil]
          exact ih (by omega)
  have := gen M.length (Nat.le_refl _)
  rwa [List.take_length] at this
theorem le_lt_of_nodup {l : List Int} (h : l.Pairwise (· ≤ ·)) (nd : l.Nodup) : l.Pairwise (· < ·) := by
  have : l.Pairwise (fun a b => a ≤ b ∧ a ≠ b) := h.and nd
  exact this.imp fun ⟨a, b⟩ => by omega
/-- what the rows of good links tell: the links again -/
theorem edges_back {n : Nat} {L M : List (Int × Int)} {R R' : List (List Int)} (g : Good n 4 L) (s : L.Pairwise lexlt) (h : (M.map norm).Perm L) (hR : runP (emptyR n) (M.map some) = some R)
    (p : Paired (fun (a b : List Int) => a.Perm b ∧ a.Pairwise (· ≤ ·)) R' R) : edgesFrom 0 R' = L := by
  have rs := runs_of g h
  obtain ⟨R0, hR0, hl, hr⟩ := runs_nb rs M.length (Nat.le_refl _)
  rw [List.take_length] at hR0 hr
  rw [hR] at hR0
  cases hR0
  have sym : ∀ i e, M[i]? = some e → e.1 ≠ e.2 ∧ e.2 ∉ nb (M.take i) e.1 ∧ e.1 ∉ nb (M.take i) e.2 := fun i e he => by
    obtain ⟨_, _, _, _, ne, h1, _⟩ := rs i e he
    refine ⟨ne, h1, fun z => h1 ?_⟩
    exact nb_mem ne ((mem_nb z).symm)
  have rowN : ∀ i row, R[i]? = some row → row = nb M ((i : Nat) : Int) ∧ i < n := fun i row e => by
    have hi := (List.getElem?_eq_some_iff.mp e).1
    have := hr ((i : Nat) : Int) (by omega) (by omega)
    unfold rowOf at this
    rw [List.getD_eq_getElem?_getD] at this
    have e' : R[((i : Nat) : Int).toNat]? = some row := by simpa using e
    rw [e'] at this
    exact ⟨this, by omega⟩
  have rowP : ∀ i row', R'[i]? = some row' → row'.Perm (nb M ((i : Nat) : Int)) ∧ row'.Pairwise (· ≤ ·) ∧ i < n := fun i row' e => by
    obtain ⟨row, h1, h2, h3⟩ := paired_get p e
    obtain ⟨h4, h5⟩ := rowN i row h1
    exact ⟨by rw [← h4]; exact h2, h3, h5⟩
  refine lex_uniq (edges_lex R' 0 fun row' hr' => ?_) s fun e => ?_
  · obtain ⟨i, hi⟩ := List.getElem?_of_mem hr'
    obtain ⟨h1, h2, _⟩ := rowP i row' hi
    exact le_lt_of_nodup h2 (h1.nodup_iff.mpr (nb_nodup sym))
  · rw [mem_edges]
    obtain ⟨x, y⟩ := e
    constructor
    · rintro ⟨i, row', h1, h2, h3, h4⟩
      obtain ⟨h5, _, h6⟩ := rowP i row' h1
      have h2 : x = (i : Int) := by simpa using h2
      subst h2
      have h4 : (i : Int) < y := h4
      have h7 := mem_nb (h5.mem_iff.mp h3)
      have : ∃ f ∈ M, norm f = ((i : Int), y) := by
        rcases h7 with z | z
        · exact ⟨_, z, by unfold norm; simp only; rw [if_pos (by omega)]⟩
        · exact ⟨_, z, by unfold norm; simp only; rw [if_neg (by omega)]⟩
      obtain ⟨f, hf, e⟩ := this
      exact h.mem_iff.mp (List.mem_map.mpr ⟨f, hf, e⟩)
    · intro he
      obtain ⟨r0, r1, r2⟩ := g.rng _ he
      have r0 : 0 ≤ x := r0
      have r1 : x < y := r1
      have r2 : y < n := r2
      obtain ⟨f, hf, e⟩ := List.mem_map.mp (h.mem_iff.mpr he)
      have lenR : R'.length = R.length := paired_len p
      have hx : x.toNat < R'.length := by omega
      refine ⟨x.toNat, R'[x.toNat], List.getElem?_eq_getElem hx, by simp; omega, ?_, r1⟩
      obtain ⟨h5, _, _⟩ := rowP x.toNat _ (List.getElem?_eq_getElem hx)
      have ex : ((x.toNat : Nat) : Int) = x := by omega
      rw [ex] at h5
      refine h5.mem_iff.mpr (nb_mem (by show x ≠ y; omega) ?_)
      show (x, y) ∈ M ∨ (y, x) ∈ M
      obtain ⟨u, v⟩ := f
      unfold norm at e
      simp only at e
      split at e
      · cases e; exact .inl hf
      · cases e; exact .inr hf
end K03

namespace K03
open PySem PySem.Spec PyProof.Rows L2 KX
local macro_rules | `(tactic| walk_at "rd1") => `(tactic| first
  | with_reducible refine rd_seq ?_
  | with_reducible refine rd_asg ?_
  | ((with_reducible refine' rd_var ?rdv ?_); (case rdv => exact rfl))
  | with_reducible refine rd_c ?_
  | with_reducible refine rd_op ?_
  | with_reducible refine rd_un ?_
  | with_reducible refine rd_cons ?_
  | with_reducible refine rd_nil ?_
  | with_reducible refine rd_call ?_
  | with_reducible refine rd_cb ?_
  | with_reducible refine rd_tB ?_
  | with_reducible refine rd_test ?_
  | with_reducible refine rd_bl ?_
  | with_reducible refine rd_rI0 ?_
  | with_reducible refine rd_eqI ?_
  | with_reducible refine rd_neI ?_
  | with_reducible refine rd_rU ?_
  | with_reducible refine rd_name ?_
  | with_reducible refine rd_ifs ?_
  | with_reducible refine rd_and ?_
  | with_reducible refine rd_or ?_
  | with_reducible refine rd_not ?_
  | with_reducible refine rd_yes ?_
  | with_reducible refine rd_andV ?_
  | with_reducible refine rd_orV ?_
  | with_reducible refine rd_notV ?_
  | with_reducible refine rd_if ?_
  | with_reducible refine rd_isN ?_
  | with_reducible refine rd_iT ?_
  | with_reducible refine rd_iF ?_
  | with_reducible refine rd_ret ?_
  | with_reducible refine rd_retN ?_
  | with_reducible refine rd_drop ?_
  | with_reducible refine rd_next ?_
  | with_reducible refine rd_cont ?_
  | with_reducible refine rd_brk ?_
  | with_reducible refine rd_nx ?_
  | with_reducible refine rd_rt ?_
  | with_reducible refine rd_ct ?_
  | with_reducible refine rd_bk ?_
  | with_reducible refine rd_par ?_
  | with_reducible refine rd_par3 ?_
  | with_reducible refine rd_par2 ?_
  | with_reducible refine rd_par33 ?_
  | with_reducible refine rd_gcons ?_
  | with_reducible refine rd_gnil ?_
  | with_reducible refine rd_sub ?_
  | with_reducible refine rd_tup ?_
  | with_reducible refine rd_lst ?_
  | ((with_reducible refine rd_tupT ?hl ?_); (case hl => exact Nat.le_of_ble_eq_true rfl))
  | ((with_reducible refine rd_lstT ?hl ?_); (case hl => exact Nat.le_of_ble_eq_true rfl))
  | with_reducible refine rd_bm ?_
  | with_reducible refine rd_bm0 ?_
  | with_reducible refine rd_sl ?_
  | with_reducible refine rd_noP ?_
  | with_reducible refine rd_part ?_
  | with_reducible refine rd_int ?_
  | with_reducible refine rd_int1 ?_
  | with_reducible refine rd_fld ?_
  | with_reducible refine rd_then ?_
  | with_reducible refine rd_raise ?_
  | with_reducible refine rd_one ?_
  | with_reducible refine rd_sfld ?_
  | with_reducible refine rd_ilist ?_
  | with_reducible refine rd_itup ?_
  | with_reducible refine rd_rng1 ?_
  | with_reducible refine rd_enum ?_
  | with_reducible refine rd_enumT ?_)
local macro_rules | `(tactic| walk_at "rd") => `(tactic| repeat (walk_at "rd1"))
theorem Deal.new {H : Hp} {p q a : Addr} {o : HO} (d : Deal H p q) (n : H a = none) : Deal (upd H a o) p q ∧ a ≠ p ∧ a ≠ q := by
  obtain ⟨ns, b, d⟩ := d
  exact ⟨⟨ns, b, DealAt.new d n⟩, (fun z => by have h := d.hp; rw [← z, n] at h; cases h), (fun z => by have h := d.hq; rw [← z, n] at h; cases h)⟩
theorem Deal.off {H : Hp} {p q a : Addr} {o : HO} (d : Deal H p q) (h1 : a ≠ p) (h2 : a ≠ q) : Deal (upd H a o) p q := by
  obtain ⟨ns, b, d⟩ := d
  exact ⟨ns, b, by rw [upd_ne (Ne.symm h1)]; exact d.hp, by rw [upd_ne (Ne.symm h2)]; exact d.hq, d.ne, d.nn, d.len, d.b0, d.b1⟩
theorem Fix.upd {p q D : Addr} {H H' : Hp} {o : HO} (f : Fix p q H H') (n : H D = none) : Fix p q H (L2.upd H' D o) := fun c u h1 h2 h => by
  rw [upd_ne (fun z => by rw [z, n] at h; cases h)]
  exact f c u h1 h2 h
theorem Fix.keep {H H' : Hp} {p q a : Addr} {o : HO} (f : Fix p q H H') (d : Deal H p q) (h : H a = some o) (n : ∀ xs, o ≠ .lst xs) : H' a = some o := by
  obtain ⟨ns, b, d⟩ := d
  refine f a o (fun e => ?_) (fun e => ?_) h
  · rw [e, d.hp] at h; exact n _ (Option.some.inj h).symm
  · rw [e, d.hq] at h; exact n _ (Option.some.inj h).symm
theorem Fix.free {H H' : Hp} {p q a : Addr} (f : Fix p q H H') (d : Deal H' p q) (h : H' a = none) : H a = none := by
  cases e : H a with
  | none => rfl
  | some o =>
    obtain ⟨ns, b, d⟩ := d
    by_cases h1 : a = p
    · rw [h1, d.hp] at h; cases h
    · by_cases h2 : a = q
      · rw [h2, d.hq] at h; cases h
      · rw [f a o h1 h2 e] at h; cases h
theorem map_erase {α β : Type} (f : α → β) : ∀ (l : List α) (i : Nat), (l.map f).eraseIdx i = (l.eraseIdx i).map f
  | [], _ => rfl
  | x :: l, 0 => rfl
  | x :: l, i + 1 => by
    show f x :: (l.map f).eraseIdx i = f x :: (l.eraseIdx i).map f
    rw [map_erase f l i]
theorem erase_perm {α : Type} : ∀ (l : List α) (i : Nat) (h : i < l.length), (l[i] :: l.eraseIdx i).Perm l
  | x :: l, 0, _ => List.Perm.refl _
  | x :: l, i + 1, h => by
    have h' : i < l.length := by simpa using h
    show (l[i] :: x :: l.eraseIdx i).Perm (x :: l)
    exact (List.Perm.swap x l[i] (l.eraseIdx i)).trans ((erase_perm l i h').cons x)
theorem seqIx {i : Int} {n : Nat} (h0 : 0 ≤ i) (h1 : i < n) : seqIndex? i n = some i.toNat := by
  have h : ixN n i = some i.toNat := by
    unfold ixN
    rw [if_pos h0]
    first
      | (rw [if_pos (by omega)])
      | (split <;> first | rfl | omega)
  exact (ixN_seq h).1
theorem Deal.nes {H : Hp} {p q a : Addr} (d : Deal H p q) (n : H a = none) : a ≠ p ∧ a ≠ q := by
  obtain ⟨ns, b, d⟩ := d
  exact ⟨(fun z => by have h := d.hp; rw [← z, n] at h; cases h), (fun z => by have h := d.hq; rw [← z, n] at h; cases h)⟩
/-! ### sorted pairs -/
def pairO : Option HO → Int × Int
  | some (.tup [.int a, .int b]) => (a, b)
  | _ => (0, 0)
def keyOf (H : Hp) : V → Int × Int
  | .ref t => pairO (H t)
  | _ => (0, 0)
theorem keyOf_at {H : Hp} {t : Addr} {e : Int × Int} (h : PairAt H t e) : keyOf H (.ref t) = e := by
  show pairO (H t) = e
  have h : H t = _ := h
  rw [h]; rfl
def addrOf : V → Addr
  | .ref t => t
  | _ => 0
theorem rd_sortedP {K : PySem.W.Frag} {H : Hp} {Q : VK} {a : Addr} {ps : List Addr} {L : List (Int × Int)} (ha : H a = some (.lst (ps.map V.ref))) (hp : Paired (PairAt H) ps L) (nd : L.Nodup)
    (h : ∀ (qs : List Addr) (L' : List (Int × Int)), L'.Perm L → L'.Pairwise lexlt → Paired (PairAt H) qs L' → NewO H (.lst (qs.map V.ref)) Q) : rSortedPO K [.ref a] H Q := by
  have mem : ∀ x ∈ ps.map V.ref, ∃ t, x = V.ref t ∧ PairAt H t (keyOf H x) := fun x hx => by
    obtain ⟨t, ht, rfl⟩ := List.mem_map.mp hx
    obtain ⟨i, hi⟩ := List.getElem?_of_mem ht
    obtain ⟨e, _, he⟩ := paired_get hp hi
    exact ⟨t, rfl, by rw [keyOf_at he]; exact he⟩
  have keys : (ps.map V.ref).map (keyOf H) = L := by
    clear ha h nd mem
    induction hp with
    | nil => rfl
    | cons x _ ih => rw [List.map_cons, List.map_cons, ih, keyOf_at x]
  refine ⟨a, _, keyOf H, rfl, SqL.of ha, fun x hx => mem x hx, fun ys p srt stb hpn => ?_⟩
  have my : ∀ y ∈ ys, ∃ t, y = V.ref t ∧ PairAt H t (keyOf H y) := fun y hy => mem y (stb.perm.mem_iff.mp hy)
  have ey : (ys.map addrOf).map V.ref = ys := by
    clear stb srt
    induction ys with
    | nil => rfl
    | cons y ys ih =>
      obtain ⟨t, rfl, _⟩ := my y List.mem_cons_self
      rw [List.map_cons, List.map_cons, ih fun z hz => my z (List.mem_cons_of_mem _ hz)]
      rfl
  have py : Paired (PairAt H) (ys.map addrOf) (ys.map (keyOf H)) := by
    clear stb srt ey
    induction ys with
    | nil => exact .nil
    | cons y ys ih =>
      obtain ⟨t, rfl, ht⟩ := my y List.mem_cons_self
      exact .cons ht (ih fun z hz => my z (List.mem_cons_of_mem _ hz))
  have pm : (ys.map (keyOf H)).Perm L := by rw [← keys]; exact stb.perm.map _
  have lx : (ys.map (keyOf H)).Pairwise lexlt := by
    have ndy : (ys.map (keyOf H)).Pairwise (· ≠ ·) := pm.nodup_iff.mpr nd
    have s1 : (ys.map (keyOf H)).Pairwise fun e f => SrtO.lexB f e = false := List.pairwise_map.mpr srt
    exact (s1.and ndy).imp fun {e f} ⟨h1, h2⟩ => by
      have h3 := SrtO.lexB_no.mp h1
      obtain ⟨e1, e2⟩ := e
      obtain ⟨f1, f2⟩ := f
      have h4 : ¬ (e1 = f1 ∧ e2 = f2) := fun ⟨a, b⟩ => h2 (by rw [a, b])
      unfold lexlt
      simp only at h3 ⊢
      omega
  have := new_of (h (ys.map addrOf) (ys.map (keyOf H)) pm lx py) p hpn
  rw [ey] at this
  exact this
/-! ### what _law_links tells, by its form -/
def stepsOf (f n : Int) : List Int := if f = 0 then [1] else if f = 1 then [1] else if f = 2 then [1, 2] else if f = 3 then [1, n / 2] else []
def pairOf (a b : Int) : Int × Int := (if b < a then b else a, if b > a then b else a)
def stepC (n one : Int) (L : List (Int × Int)) (step : Int) : List (Int × Int) :=
  if one = (one + step) % n then L else if pairOf one ((one + step) % n) ∈ L then L else L ++ [pairOf one ((one + step) % n)]
def circ (n : Int) (steps : List Int) (i : Nat) : List (Int × Int) := (List.range i).foldl (fun L one => steps.foldl (stepC n (one : Nat)) L) []
def goodB (n d : Nat) (L : List (Int × Int)) : Bool :=
  L.all (fun e => decide (0 ≤ e.1) && (decide (e.1 < e.2) && decide (e.2 < (n : Int)))) && (decide L.Nodup && (List.range n).all fun s => decide ((L.filter (inc (s : Int))).length ≤ d))
theorem goodB_ok {n d : Nat} {L : List (Int × Int)} (h : goodB n d L = true) : Good n d L := by
  unfold goodB at h
  rw [Bool.and_eq_true, Bool.and_eq_true] at h
  obtain ⟨h1, h2, h3⟩ := h
  have rng : ∀ e ∈ L, 0 ≤ e.1 ∧ e.1 < e.2 ∧ e.2 < n := fun e he => by
    have := List.all_eq_true.mp h1 e he
    simpa using this
  refine ⟨rng, of_decide_eq_true h2, fun s => ?_⟩
  by_cases hs : 0 ≤ s ∧ s < n
  · have := List.all_eq_true.mp h3 s.toNat (List.mem_range.mpr (by omega))
    have e : ((s.toNat : Nat) : Int) = s := by omega
    rw [e] at this
    exact of_decide_eq_true this
  · have : L.filter (inc s) = [] := List.filter_eq_nil_iff.mpr fun e he => by
      obtain ⟨a, b, c⟩ := rng e he
      unfold inc
      simp
      omega
    rw [this]; exact Nat.zero_le _
theorem circ_good : ∀ n : Nat, 1 ≤ n → n < 10 → ∀ f : Nat, f < 4 → goodB n 4 (circ n (stepsOf f n) n) = true := by
  have h : ((List.range 10).all fun n => (List.range 4).all fun f => n == 0 || goodB n 4 (circ n (stepsOf f n) n)) = true := by decide +kernel
  intro n h1 h2 f hf
  have a := List.all_eq_true.mp h n (List.mem_range.mpr h2)
  have b := List.all_eq_true.mp a f (List.mem_range.mpr hf)
  have z : (n == 0) = false := by simp; omega
  rw [z, Bool.false_or] at b
  exact b
end K03

namespace K03
open PySem PySem.Spec PyProof.Rows L2 KX
theorem rd_for {wi : TI} {g : TG} {tb : TS} {D : Ends} {σ : L2.St} {H : Hp} (h : wi σ H fun J H1 => ∃ W : Nat → Nat → L2.St → Hp → Prop, (∃ m, W 0 m σ H1) ∧ ∀ i m σ H, W i m σ H →
    (J.stop i H ∧ D.nx σ H) ∨ (J.go i H ∧ ∃ N : L2.St → Hp → Prop, (∀ σ' H', N σ' H' → ∃ m', m' < m ∧ W (i + 1) m' σ' H') ∧ ∀ x H', J.yld i H x H' → g x σ H' fun σ2 H2 => tb { D with nx := N, ct := N, bk := D.nx } σ2 H2)) : tFor wi g tb D σ H := h
theorem rd_lc {wi : TI} {g : TG} {tt : TT} {te : TE} {vs : List Nat} {σ : L2.St} {H : Hp} {Q : VK} (h : wi σ H fun J H1 => ∀ D, H1 D = none → ∃ W : Nat → Nat → Hp → Prop, (∃ m, W 0 m (upd H1 D (.lst []))) ∧ ∀ i m H, W i m H →
    (J.stop i H ∧ Q (.ref D) H) ∨ (J.go i H ∧ ∃ Nx : Hp → Prop, (∀ H', Nx H' → ∃ m', m' < m ∧ W (i + 1) m' H') ∧ ∀ x H', J.yld i H x H' → g x (wipe σ vs) H' fun σ2 H2 => wipe σ2 vs = wipe σ vs ∧ tt σ2 H2 fun b H3 =>
      if b = true then te σ2 H3 fun y H4 => ∃ acc, H4 D = some (.lst acc) ∧ acc.length < sizeLine ∧ Nx (upd H4 D (.lst (acc ++ [y]))) else Nx H3)) : tLc wi g tt te vs σ H Q := h
local macro_rules | `(tactic| walk_at "rd1") => `(tactic| first
  | with_reducible refine rd_seq ?_
  | with_reducible refine rd_for ?_
  | with_reducible refine rd_lc ?_
  | with_reducible refine rd_asg ?_
  | ((with_reducible refine' rd_var ?rdv ?_); (case rdv => exact rfl))
  | with_reducible refine rd_c ?_
  | with_reducible refine rd_op ?_
  | with_reducible refine rd_un ?_
  | with_reducible refine rd_cons ?_
  | with_reducible refine rd_nil ?_
  | with_reducible refine rd_call ?_
  | with_reducible refine rd_cb ?_
  | with_reducible refine rd_tB ?_
  | with_reducible refine rd_test ?_
  | with_reducible refine rd_bl ?_
  | with_reducible refine rd_rI0 ?_
  | with_reducible refine rd_eqI ?_
  | with_reducible refine rd_neI ?_
  | with_reducible refine rd_rU ?_
  | with_reducible refine rd_name ?_
  | with_reducible refine rd_ifs ?_
  | with_reducible refine rd_and ?_
  | with_reducible refine rd_or ?_
  | with_reducible refine rd_not ?_
  | with_reducible refine rd_yes ?_
  | with_reducible refine rd_andV ?_
  | with_reducible refine rd_orV ?_
  | with_reducible refine rd_notV ?_
  | with_reducible refine rd_if ?_
  | with_reducible refine rd_isN ?_
  | with_reducible refine rd_iT ?_
  | with_reducible refine rd_iF ?_
  | with_reducible refine rd_ret ?_
  | with_reducible refine rd_retN ?_
  | with_reducible refine rd_drop ?_
  | with_reducible refine rd_next ?_
  | with_reducible refine rd_cont ?_
  | with_reducible refine rd_brk ?_
  | with_reducible refine rd_nx ?_
  | with_reducible refine rd_rt ?_
  | with_reducible refine rd_ct ?_
  | with_reducible refine rd_bk ?_
  | with_reducible refine rd_par ?_
  | with_reducible refine rd_par3 ?_
  | with_reducible refine rd_par2 ?_
  | with_reducible refine rd_par33 ?_
  | with_reducible refine rd_gcons ?_
  | with_reducible refine rd_gnil ?_
  | with_reducible refine rd_sub ?_
  | with_reducible refine rd_tup ?_
  | with_reducible refine rd_lst ?_
  | ((with_reducible refine rd_tupT ?hl ?_); (case hl => exact Nat.le_of_ble_eq_true rfl))
  | ((with_reducible refine rd_lstT ?hl ?_); (case hl => exact Nat.le_of_ble_eq_true rfl))
  | with_reducible refine rd_bm ?_
  | with_reducible refine rd_bm0 ?_
  | with_reducible refine rd_sl ?_
  | with_reducible refine rd_noP ?_
  | with_reducible refine rd_part ?_
  | with_reducible refine rd_int ?_
  | with_reducible refine rd_int1 ?_
  | with_reducible refine rd_fld ?_
  | with_reducible refine rd_then ?_
  | with_reducible refine rd_raise ?_
  | with_reducible refine rd_one ?_
  | with_reducible refine rd_sfld ?_
  | with_reducible refine rd_ilist ?_
  | with_reducible refine rd_itup ?_
  | with_reducible refine rd_rng1 ?_
  | with_reducible refine rd_enum ?_
  | with_reducible refine rd_enumT ?_)
local macro_rules | `(tactic| walk_at "rd") => `(tactic| repeat (walk_at "rd1"))
/-- the list of links under way -/
def LkInv (p q l : Addr) (H H' : Hp) (L : List (Int × Int)) : Prop := Deal H' p q ∧ Fix p q H H' ∧ ∃ ps : List Addr, H' l = some (.lst (ps.map V.ref)) ∧ Paired (PairAt H') ps L
theorem pairs_same {H H' : Hp} {ps : List Addr} {L : List (Int × Int)} (h : Paired (PairAt H) ps L) (s : Same H H') : Paired (PairAt H') ps L := paired_mono h fun _ _ z => s _ _ z
theorem pairs_upd {H : Hp} {l : Addr} {xs ys : List V} {ps : List Addr} {L : List (Int × Int)} (h : Paired (PairAt H) ps L) (hl : H l = some (.lst xs)) : Paired (PairAt (upd H l (.lst ys))) ps L :=
  paired_mono h fun a b z => by
    have z : H a = some _ := z
    show upd H l _ a = some _
    rw [upd_ne (fun e => by rw [e, hl] at z; cases z)]
    exact z
theorem pairs_snoc {H : Hp} {t : Addr} {e : Int × Int} : ∀ {ps : List Addr} {L : List (Int × Int)}, Paired (PairAt H) ps L → PairAt H t e → Paired (PairAt H) (ps ++ [t]) (L ++ [e]) := fun h a => by
  induction h with
  | nil => exact .cons a .nil
  | cons x _ ih => exact .cons x ih
theorem LkInv.same {p q l : Addr} {H H1 H2 : Hp} {L : List (Int × Int)} (h : LkInv p q l H H1 L) (s : Same H1 H2) : LkInv p q l H H2 L := by
  obtain ⟨d, f, ps, h1, h2⟩ := h
  exact ⟨d.same s, f.trans (Fix.same s), ps, s _ _ h1, pairs_same h2 s⟩
theorem LkInv.fix {p q l : Addr} {H H1 H2 : Hp} {L : List (Int × Int)} (h : LkInv p q l H H1 L) (lp : l ≠ p) (lq : l ≠ q) (d : Deal H2 p q) (s : Fix p q H1 H2) : LkInv p q l H H2 L := by
  obtain ⟨d1, f, ps, h1, h2⟩ := h
  exact ⟨d, f.trans s, ps, s _ _ lp lq h1, paired_mono h2 fun a b z => Fix.keep s d1 z (fun _ e => by cases e)⟩
theorem LkInv.app {p q l t : Addr} {H H1 : Hp} {L : List (Int × Int)} {e : Int × Int} (h : LkInv p q l H H1 L) (lp : l ≠ p) (lq : l ≠ q) (l0 : H l = none) (ht : PairAt H1 t e) :
    ∃ xs, H1 l = some (.lst xs) ∧ xs.length = L.length ∧ LkInv p q l H (upd H1 l (.lst (xs ++ [.ref t]))) (L ++ [e]) := by
  obtain ⟨d, f, ps, h1, h2⟩ := h
  refine ⟨_, h1, by rw [List.length_map, paired_len h2], d.off lp lq, f.upd l0, ps ++ [t], by rw [upd_same]; simp, ?_⟩
  exact pairs_upd (pairs_snoc h2 ht) h1
theorem rd_notInP {K : PySem.W.Frag} {H : Hp} {t l : Addr} {e : Int × Int} {ps : List Addr} {L : List (Int × Int)} {Q : VK} (ht : PairAt H t e) (hl : H l = some (.lst (ps.map V.ref))) (hp : Paired (PairAt H) ps L)
    (h : Q (.bl (!decide (e ∈ L))) H) : rNotInD K (.ref t) (.ref l) H Q :=
  ⟨dP e, L.map dP, dp_pair ht, .lst (SqL.of hl) (dp_pairs hp), dP_sh1 e, dP_shL L, by rw [dP_any]; exact h⟩
theorem stepC_len (n one : Int) (L : List (Int × Int)) (s : Int) : (stepC n one L s).length ≤ L.length + 1 := by
  unfold stepC
  split
  · omega
  · split
    · omega
    · simp
theorem fold_snoc {α β : Type} (f : α → β → α) (a : α) (l : List β) (i : Nat) (x : β) (h : l[i]? = some x) : (l.take (i + 1)).foldl f a = f ((l.take i).foldl f a) x := by
  rw [List.take_succ, h]
  simp [List.foldl_append]
theorem circ_succ (n : Int) (steps : List Int) (i : Nat) : circ n steps (i + 1) = steps.foldl (stepC n (i : Nat)) (circ n steps i) := by
  unfold circ
  rw [List.range_succ, List.foldl_append]
  rfl
theorem circ_nil (n : Int) : ∀ i, circ n [] i = []
  | 0 => rfl
  | i + 1 => by rw [circ_succ, circ_nil n i]; rfl
theorem fold_len (n one : Int) : ∀ (steps : List Int) (L : List (Int × Int)), (steps.foldl (stepC n one) L).length ≤ L.length + steps.length
  | [], L => Nat.le_refl _
  | s :: ss, L => by
    have h1 := fold_len n one ss (stepC n one L s)
    have h2 := stepC_len n one L s
    simp only [List.foldl_cons, List.length_cons]
    omega
theorem circ_len (n : Int) (steps : List Int) (hs : steps.length ≤ 2) : ∀ i, (circ n steps i).length ≤ 2 * i
  | 0 => Nat.le_refl _
  | i + 1 => by
    rw [circ_succ]
    have h1 := circ_len n steps hs i
    have h2 := fold_len n (i : Nat) steps (circ n steps i)
    omega
theorem steps_len (f n : Int) : (stepsOf f n).length ≤ 2 := by
  unfold stepsOf
  split
  · decide
  · split
    · decide
    · split
      · decide
      · split
        · simp
        · decide
theorem inc_in (s : Int) (e : Int × Int) : decide (s ∈ [e.1, e.2]) = inc s e := by
  unfold inc
  by_cases h1 : e.1 = s
  · simp [h1]
  · by_cases h2 : e.2 = s
    · simp [h2]
    · have h1' : ¬ s = e.1 := fun z => h1 z.symm
      have h2' : ¬ s = e.2 := fun z => h2 z.symm
      simp [h1, h2, h1', h2']
/-- links drawn one by one: the greater site first, then the lesser one -/
structure Bf (o i : Nat) (L : List (Int × Int)) : Prop where
  rng : ∀ e ∈ L, 0 ≤ e.1 ∧ e.1 < e.2 ∧ (e.2 < o ∨ e.2 = o ∧ e.1 < i)
  nd : L.Nodup
  deg : ∀ s : Int, (L.filter (inc s)).length ≤ 4
  len : L.length ≤ 10 * o + i
theorem Bf.skip {o i : Nat} {L : List (Int × Int)} (h : Bf o i L) : Bf o (i + 1) L :=
  ⟨fun e he => by have := h.rng e he; omega, h.nd, h.deg, by have := h.len; omega⟩
theorem Bf.next {o : Nat} {L : List (Int × Int)} (h : Bf o o L) (ho : o < 10) : Bf (o + 1) 0 L :=
  ⟨fun e he => by have := h.rng e he; omega, h.nd, h.deg, by have := h.len; omega⟩
theorem Bf.app {o i : Nat} {L : List (Int × Int)} (h : Bf o i L) (hi : i < o) (d1 : (L.filter (inc (i : Nat))).length < 4) (d2 : (L.filter (inc (o : Nat))).length < 4) : Bf o (i + 1) (L ++ [(((i : Nat) : Int), ((o : Nat) : Int))]) := by
  refine ⟨fun e he => ?_, ?_, fun s => ?_, by have := h.len; simp; omega⟩
  · rcases List.mem_append.mp he with z | z
    · have := h.rng e z; omega
    · rw [List.mem_singleton.mp z]
      show (0 : Int) ≤ (i : Nat) ∧ ((i : Nat) : Int) < (o : Nat) ∧ _
      omega
  · refine List.nodup_append.mpr ⟨h.nd, by simp, fun a ha b hb => ?_⟩
    rw [List.mem_singleton.mp hb]
    intro z
    have := h.rng a ha
    rw [z] at this
    simp at this
  · rw [List.filter_append, List.length_append]
    have h1 := h.deg s
    by_cases c1 : ((i : Nat) : Int) = s
    · rw [← c1]
      have : ([(((i : Nat) : Int), ((o : Nat) : Int))].filter (inc ((i : Nat) : Int))).length ≤ 1 := List.length_filter_le _ _
      omega
    · by_cases c2 : ((o : Nat) : Int) = s
      · rw [← c2]
        have : ([(((i : Nat) : Int), ((o : Nat) : Int))].filter (inc ((o : Nat) : Int))).length ≤ 1 := List.length_filter_le _ _
        omega
      · have : [(((i : Nat) : Int), ((o : Nat) : Int))].filter (inc s) = [] := by
          simp [inc, c1, c2]
        rw [this]; simpa using h1
theorem Bf.good {n : Nat} {L : List (Int × Int)} (h : Bf n 0 L) : Good n 4 L :=
  ⟨fun e he => by have := h.rng e he; omega, h.nd, h.deg⟩
theorem Good.perm {n d : Nat} {L M : List (Int × Int)} (h : Good n d L) (p : M.Perm L) : Good n d M :=
  ⟨fun e he => h.rng e (p.mem_iff.mp he), p.nodup_iff.mpr h.nd, fun s => by rw [perm_filter_len p (inc s)]; exact h.deg s⟩
def spLk : Sp := fun vs H Q _ => ∃ (p q : Addr) (n : Nat), vs = [.ref p, .int (n : Nat)] ∧ Deal H p q ∧ 1 ≤ n ∧ n < 10 ∧
  ∀ (H' : Hp) (l : Addr) (ps : List Addr) (L : List (Int × Int)), Deal H' p q → Fix p q H H' → H l = none → l ≠ p → l ≠ q → H' l = some (.lst (ps.map V.ref)) → Paired (PairAt H') ps L → Good n 4 L → L.Pairwise lexlt → Q (.ref l) H'
section
variable {P : Program} {w : World} {K : PySem.W.Frag} {mg : Str → Option Value} {base : Heap} (T : TX K mg)
theorem G__law_links : FnOk P w K mg base CX0 2 T.f__law_links T.d__law_links ["deal", "many"] spLk := by
  refine T.F__law_links.ok sc__law_links (fun vs H Q E h => ?_) fun cdv A outer s H vs Q E hr h => ⟨_, (pss_cons (ps_asg (pe_tup (pa_cons (pe_call (G__law_any T) (hr.mono (by decide)) (by rfl) T.m__law_any T.F__law_any.kp T.b__law_any .nil pass0 (by exact (pa_cons (pv 0) (pa_cons pe_int pa_nil)))) (pa_cons (pe_lst pa_nil) (pa_cons (pe_op op_add pe_int (pe_call (G__law_any T) (hr.mono (by decide)) (by rfl) T.m__law_any T.F__law_any.kp T.b__law_any .nil pass0 (by exact (pa_cons (pv 0) (pa_cons pe_int pa_nil))))) pa_nil)))) (pg_tupK (K := K) (n := 3) (by rfl) (pgs_cons (pg_name (i := 2) sc__law_links.nd rfl (.inl rfl)) (pgs_cons (pg_name (i := 3) sc__law_links.nd rfl (.inr rfl)) (pgs_cons (pg_name (i := 4) sc__law_links.nd rfl (.inl rfl)) pgs_nil))))) (pss_cons (ps_set (i := 5) sc__law_links.nd rfl (.inl rfl) (pe_ix (ix_listK (K := K)) (pe_lst (pa_cons (pe_lst (pa_cons pe_int pa_nil)) (pa_cons (pe_lst (pa_cons pe_int pa_nil)) (pa_cons (pe_lst (pa_cons pe_int (pa_cons pe_int pa_nil))) (pa_cons (pe_lst (pa_cons pe_int (pa_cons (pe_op op_fdiv (pv 1) pe_int) pa_nil))) (pa_cons (pe_lst pa_nil) (pa_cons (pe_lst pa_nil) pa_nil))))))) (pv 2) (fun _ _ => rfl))) (pss_cons (ps_for PassesOwn.never rfl (pi_range1 (by rfl) T.n_range (by exact (pa_cons (pv 1) pa_nil))) (pg_name (i := 6) sc__law_links.nd rfl (.inl rfl)) (pss_one (ps_for PassesOwn.never rfl (pi_listK (K := K) (pv 5)) (pg_name (i := 7) sc__law_links.nd rfl (.inl rfl)) (pss_cons (ps_set (i := 8) sc__law_links.nd rfl (.inl rfl) (pe_op op_mod (pe_callTy call_int1 (by rfl) T.n_int (by decide +kernel) (by exact (pa_cons (pe_op op_add (pv 6) (pv 7)) pa_nil))) (pv 1))) (pss_one (ps_if (PW.pt (pw_and (pt_cmpR op_ne (pv 6) (pv 8) (nomark _)) (pw_and1 (pt_cmpR (op_notInDK (K := K) (KX.Room.u65 hr)) (pe_tup (pa_cons (pe_callB (call_min2 rfl) (by rfl) T.n_min (by decide +kernel) (by exact (pa_cons (pv 6) (pa_cons (pv 8) pa_nil)))) (pa_cons (pe_callB (call_max2 rfl) (by rfl) T.n_max (by decide +kernel) (by exact (pa_cons (pv 6) (pa_cons (pv 8) pa_nil)))) pa_nil))) (pv 3) (by rfl))))) (pss_one (ps_expr (pe_bmK (K := K) PySem.F.slot_list_append PySem.F.type_list_append mt_append (pv 3) (by exact (pa_cons (pe_tup (pa_cons (pe_callB (call_min2 rfl) (by rfl) T.n_min (by decide +kernel) (by exact (pa_cons (pv 6) (pa_cons (pv 8) pa_nil)))) (pa_cons (pe_callB (call_max2 rfl) (by rfl) T.n_max (by decide +kernel) (by exact (pa_cons (pv 6) (pa_cons (pv 8) pa_nil)))) pa_nil))) pa_nil))))) pss_nil)))))) (pss_cons (ps_if (pt_cmpR op_gt (pv 2) pe_int (nomark _)) (pss_one (ps_for PassesOwn.never rfl (pi_range1 (by rfl) T.n_range (by exact (pa_cons (pv 1) pa_nil))) (pg_name (i := 8) sc__law_links.nd rfl (.inl rfl)) (pss_one (ps_for PassesOwn.never rfl (pi_range1 (by rfl) T.n_range (by exact (pa_cons (pv 8) pa_nil))) (pg_name (i := 6) sc__law_links.nd rfl (.inl rfl)) (pss_cons (ps_setLc (i := 9) (own := [("site", 10)]) (by rfl) sc__law_links.nd rfl rfl (sw_true rfl rfl rfl (by decide +kernel)) (pi_tupK (K := K) (pe_tup (pa_cons (pv 6) (pa_cons (pv 8) pa_nil)))) (blkOk_by (own := [("site", 10)]) (N := N__law_links) (sc := defScope s__law_links) (by decide +kernel)) (fun _ _ _ _ _ => (pg_name (i := 10) sc__law_links.nd rfl (.inr rfl))) (fun _ _ _ _ _ => pts_nil) (fun _ _ _ _ _ => (pe_callB (cr_lenK (K := K)) (by rfl) T.n_len (by decide +kernel) (by exact (pa_cons (by exact (pe_lc (own := [("link", 11)]) (by rfl) sc__law_links.nd (pi_listK (K := K) (pv 3)) (blkOk_by (own := [("link", 11)]) (N := N__law_links) (sc := ({ kind := PySem.ScopeKind.function, names := [(PySem.Str.ofString ".0", PySem.NameKind.local), (PySem.Str.ofString "site", PySem.NameKind.cell), (PySem.Str.ofString "len", PySem.NameKind.globalImplicit), (PySem.Str.ofString "links", PySem.NameKind.cell)], isGenerator := false, isCoroutine := false, more := [] } : PySem.Scope)) (by decide +kernel)) (fun _ _ _ _ _ => (pg_name (i := 11) sc__law_links.nd rfl (.inl rfl))) (fun _ _ _ _ _ => pts_one (pt_cmpR (op_inK (K := K)) (pv 10) (pv 11) (by rfl))) (fun _ _ _ _ _ => (pv 11)) )) pa_nil)))) ) (pss_one (ps_if (PW.pt (pw_and (pt_cmpR op_lt (pe_callB (cr_maxK (K := K) rfl) (by rfl) T.n_max (by decide +kernel) (by exact (pa_cons (pv 9) pa_nil))) (pv 4) (nomark _)) (pw_and1 (pt_cmpR op_gt (pe_call (G__law_any T) (hr.mono (by decide)) (by rfl) T.m__law_any T.F__law_any.kp T.b__law_any .nil pass0 (by exact (pa_cons (pv 0) (pa_cons pe_int pa_nil)))) pe_int (nomark _))))) (pss_one (ps_expr (pe_bmK (K := K) PySem.F.slot_list_append PySem.F.type_list_append mt_append (pv 3) (by exact (pa_cons (pe_tup (pa_cons (pv 6) (pa_cons (pv 8) pa_nil))) pa_nil))))) pss_nil))))))) pss_nil) (pss_one (ps_ret (pe_callB (cr_sortedPOK (K := K)) (by rfl) T.n_sorted (by decide +kernel) (by exact (pa_cons (pv 3) pa_nil))))))))), ?_⟩
  · obtain ⟨p, q, n, rfl, _⟩ := h
    rfl
  · obtain ⟨p, q, n, rfl, d, n1, n10, hQ⟩ := h
    walk_at "rd"
    refine ⟨p, q, 6, rfl, d, by decide, by decide, fun H1 f d1 f1 f0 f6 => ?_⟩
    walk_at "rd"
    intro l H2 l0 S2 hl
    have d2 := d1.same S2
    obtain ⟨lp, lq⟩ := d1.nes l0
    have l00 := f1.free d1 l0
    walk_at "rd"
    refine ⟨p, q, 4, rfl, d2, by decide, by decide, fun H3 m d3 f3 m0 m4 => ?_⟩
    have hl3 := f3 _ _ lp lq hl
    have F3 : Fix p q H H3 := f1.trans ((Fix.same S2).trans f3)
    walk_at "rd"
    intro t H4 t0 S4 ht
    refine rd_gtup (Tup.of ht) rfl ?_
    walk_at "rd"
    intro a0 H5 n5 S5 e0
    walk_at "rd"
    intro a1 H6 n6 S6 e1
    walk_at "rd"
    intro a2 H7 n7 S7 e2
    walk_at "rd"
    refine rd_rI ⟨by decide, by decide⟩ ?_
    walk_at "rd"
    intro a3 H8 n8 S8 e3
    walk_at "rd"
    intro a4 H9 n9 S9 e4
    walk_at "rd"
    intro a5 H10 n10' S10 e5
    walk_at "rd"
    intro a6 H11 n11 S11 e6
    have S411 := ((((((S4.trans S5).trans S6).trans S7).trans S8).trans S9).trans S10).trans S11
    have hl11 := S411 _ _ hl3
    obtain ⟨as, hst, has, asl⟩ : ∃ as, atI [V.ref a0, V.ref a1, V.ref a2, V.ref a3, V.ref a4, V.ref a5] f = some (.ref as) ∧ H11 as = some (.lst ((stepsOf f n).map V.int)) ∧ as ≠ l := by
      have hf : f = 0 ∨ f = 1 ∨ f = 2 ∨ f = 3 ∨ f = 4 ∨ f = 5 := by omega
      have h4 := S4 _ _ hl3
      have h5 := S5 _ _ h4
      have h6 := S6 _ _ h5
      have h7 := S7 _ _ h6
      have h8 := S8 _ _ h7
      have h9 := S9 _ _ h8
      rcases hf with rfl | rfl | rfl | rfl | rfl | rfl
      · exact ⟨a0, rfl, (((((S6.trans S7).trans S8).trans S9).trans S10).trans S11) _ _ e0, fun z => by rw [z, h4] at n5; cases n5⟩
      · exact ⟨a1, rfl, ((((S7.trans S8).trans S9).trans S10).trans S11) _ _ e1, fun z => by rw [z, h5] at n6; cases n6⟩
      · exact ⟨a2, rfl, (((S8.trans S9).trans S10).trans S11) _ _ e2, fun z => by rw [z, h6] at n7; cases n7⟩
      · exact ⟨a3, rfl, ((S9.trans S10).trans S11) _ _ e3, fun z => by rw [z, h7] at n8; cases n8⟩
      · exact ⟨a4, rfl, (S10.trans S11) _ _ e4, fun z => by rw [z, h8] at n9; cases n9⟩
      · exact ⟨a5, rfl, S11 _ _ e5, fun z => by rw [z, h9] at n10'; cases n10'⟩
    walk_at "rd"
    refine rd_ixL e6 hst ?_
    walk_at "rd"
    have I0 : LkInv p q l H H11 [] := ⟨d3.same S411, F3.trans (Fix.same S411), [], hl11, .nil⟩
    generalize hsp : stepsOf f n = sp at has
    have spl : sp.length ≤ 2 := by rw [← hsp]; exact steps_len f n
    refine ⟨by omega, by omega, ?_⟩
    refine for_range (lo := 0) (n := n) (fun i σ H' => (∃ o6 o7 o8 o9 o10 o11, σ = [some (.ref p), some (.int (n : Nat)), some (.int f), some (.ref l), some (.int (1 + m)), some (.ref as), o6, o7, o8, o9, o10, o11]) ∧
      LkInv p q l H H' (circ n sp i) ∧ H' as = some (.lst (sp.map V.int))) ⟨⟨_, _, _, _, _, _, rfl⟩, I0, has⟩ (fun i σ H' hi pv => ?_) (fun σ H' pv => ?_)
    · obtain ⟨⟨o6, o7, o8, o9, o10, o11, rfl⟩, I, ha⟩ := pv
      walk_at "rd"
      refine ⟨as, rfl, ⟨_, SqL.of ha⟩, ?_⟩
      refine for_list (xs := sp.map V.int) (fun j σ H' => (∃ o7 o8 o9 o10 o11, σ = [some (.ref p), some (.int (n : Nat)), some (.int f), some (.ref l), some (.int (1 + m)), some (.ref as), some (.int (0 + (i : Nat))), o7, o8, o9, o10, o11]) ∧
        LkInv p q l H H' ((sp.take j).foldl (stepC n (i : Nat)) (circ n sp i)) ∧ H' as = some (.lst (sp.map V.int))) ⟨⟨_, _, _, _, _, rfl⟩, I, ha⟩ (fun j σ H' _ pv => SqL.of pv.2.2) (fun j x σ H' hx pv => ?_) (fun σ H' pv => ?_)
      · obtain ⟨⟨o7, o8, o9, o10, o11, rfl⟩, I, ha⟩ := pv
        rw [List.getElem?_map] at hx
        obtain ⟨st, hs, rfl⟩ := Option.map_eq_some_iff.mp hx
        rw [fold_snoc _ _ _ _ _ hs]
        have lL : ((sp.take j).foldl (stepC n (i : Nat)) (circ n sp i)).length ≤ 100 := by
          have h1 := fold_len n (i : Nat) (sp.take j) (circ n sp i)
          have h2 := circ_len n sp spl i
          have h3 : (sp.take j).length ≤ sp.length := by rw [List.length_take]; omega
          omega
        generalize (sp.take j).foldl (stepC n (i : Nat)) (circ n sp i) = L at I lL
        walk_at "rd"
        refine .inl ⟨_, rfl, ?_⟩
        walk_at "rd"
        refine rd_rI (by omega) ?_
        have z0 : (0 : Int) + (i : Nat) = (i : Nat) := by omega
        have zg : ((0 : Int) + (i : Nat) + st) % (n : Nat) = ((i : Nat) + st) % (n : Nat) := by rw [z0]
        rw [zg, z0]
        have zs : stepC (n : Nat) (i : Nat) L st = if ((i : Nat) : Int) = ((i : Nat) + st) % (n : Nat) then L else if pairOf (i : Nat) (((i : Nat) + st) % (n : Nat)) ∈ L then L else L ++ [pairOf (i : Nat) (((i : Nat) + st) % (n : Nat))] := rfl
        rw [zs]
        generalize (((i : Nat) : Int) + st) % (n : Nat) = ot
        walk_at "rd"
        by_cases h1 : ((i : Nat) : Int) = ot
        · rw [if_pos h1]
          refine iteF' (by simp [h1]) ?_
          walk_at "rd"
          exact ⟨⟨_, _, _, _, _, rfl⟩, I, ha⟩
        · rw [if_neg h1]
          refine iteT' (by simp [h1]) ?_
          walk_at "rd"
          refine ⟨_, _, rfl, ?_⟩
          walk_at "rd"
          refine ⟨_, _, rfl, ?_⟩
          walk_at "rd"
          intro u H12 u0 S12 hu
          have hu : PairAt H12 u (pairOf (i : Nat) ot) := hu
          have I12 := I.same S12
          have ha12 := S12 _ _ ha
          obtain ⟨_, _, ps, hps, hpp⟩ := I12
          walk_at "rd"
          refine rd_notInP hu hps hpp ?_
          walk_at "rd"
          by_cases h2 : pairOf (i : Nat) ot ∈ L
          · rw [if_pos h2]
            refine iteF' (by simp [h2]) ?_
            walk_at "rd"
            exact ⟨⟨_, _, _, _, _, rfl⟩, I.same S12, ha12⟩
          · rw [if_neg h2]
            refine iteT' (by simp [h2]) ?_
            walk_at "rd"
            refine rd_ty hps ?_
            walk_at "rd"
            refine ⟨_, _, rfl, ?_⟩
            walk_at "rd"
            refine ⟨_, _, rfl, ?_⟩
            walk_at "rd"
            intro v H13 v0 S13 hv
            have hv : PairAt H13 v (pairOf (i : Nat) ot) := hv
            obtain ⟨xs, hxs, lxs, I13⟩ := ((I.same S12).same S13).app lp lq l00 hv
            walk_at "rd"
            refine rd_app hxs (by omega) ?_
            walk_at "rd"
            refine ⟨⟨_, _, _, _, _, rfl⟩, I13, ?_⟩
            rw [upd_ne asl]
            exact S13 _ _ ha12
      · obtain ⟨⟨o7, o8, o9, o10, o11, rfl⟩, I, ha⟩ := pv
        rw [List.length_map, List.take_length, ← circ_succ] at I
        walk_at "rd"
        exact ⟨⟨_, _, _, _, _, _, rfl⟩, I, ha⟩
    · obtain ⟨⟨o6, o7, o8, o9, o10, o11, rfl⟩, I, ha⟩ := pv
      have fin : ∀ (H' : Hp) (L : List (Int × Int)) (σ : L2.St), σ[3]? = some (some (V.ref l)) → LkInv p q l H H' L → Good n 4 L → tRet (tCB (rSortedPO K) (tCons (tVar 3) tNil)) { nx := fun x H' => Q V.non H', rt := Q } σ H' := fun H' L σ hσ I g => by
        obtain ⟨d', f', ps, hps, hpp⟩ := I
        refine rd_ret (rd_cb (rd_cons (rd_var hσ (rd_nil ?_))))
        refine rd_sortedP hps hpp g.nd fun qs L' pm srt pr => ?_
        intro a H'' a0 S e
        exact hQ H'' a qs L' (d'.same S) (f'.trans (Fix.same S)) (f'.free d' a0) (d'.nes a0).1 (d'.nes a0).2 e (pairs_same pr S) (g.perm pm) srt
      walk_at "rd"
      by_cases h3 : 3 < f
      · refine iteT' (decide_eq_true h3) ?_
        have spn : sp = [] := by
          rw [← hsp]
          have : f = 4 ∨ f = 5 := by omega
          rcases this with rfl | rfl <;> rfl
        rw [spn, circ_nil] at I
        walk_at "rd"
        refine ⟨by omega, by omega, ?_⟩
        refine for_range (lo := 0) (n := n) (fun o σ H' => (∃ o5 o6 o7 o8 o9 o10 o11, σ = [some (.ref p), some (.int (n : Nat)), some (.int f), some (.ref l), some (.int (1 + m)), o5, o6, o7, o8, o9, o10, o11]) ∧
          ∃ L, LkInv p q l H H' L ∧ Bf o 0 L) ⟨⟨_, _, _, _, _, _, _, rfl⟩, [], I, ⟨by simp, List.nodup_nil, by simp, by simp⟩⟩ (fun o σ H' ho pv => ?_) (fun σ H' pv => ?_)
        · obtain ⟨⟨o5, o6, o7, o8, o9, o10, o11, rfl⟩, L, I, B⟩ := pv
          walk_at "rd"
          refine ⟨by omega, by omega, ?_⟩
          have e0 : ((0 : Int) + (o : Nat)).toNat = o := by omega
          rw [e0]
          refine for_range (lo := 0) (n := o) (fun i σ H' => (∃ o5 o6 o7 o9 o10 o11, σ = [some (.ref p), some (.int (n : Nat)), some (.int f), some (.ref l), some (.int (1 + m)), o5, o6, o7, some (.int (0 + (o : Nat))), o9, o10, o11]) ∧
            ∃ L, LkInv p q l H H' L ∧ Bf o i L) ⟨⟨_, _, _, _, _, _, rfl⟩, L, I, B⟩ (fun i σ H' hi pv => ?_) (fun σ H' pv => ?_)
          · obtain ⟨⟨o5, o6, o7, o9, o10, o11, rfl⟩, L, I, B⟩ := pv
            walk_at "rd"
            intro u H12 u0 S12 hu
            have I12 := I.same S12
            refine ⟨u, rfl, ⟨_, SqT.of hu⟩, fun D hD => ?_⟩
            have lL : L.length ≤ 100 := by have := B.len; omega
            have hD' : H' D = none := S12.free hD
            refine lc_tup (xs := [V.int (0 + (i : Nat)), V.int (0 + (o : Nat))]) (fun j H' => Same H12 H' ∧ H' D = some (.lst (([((i : Nat) : Int), ((o : Nat) : Int)].take j).map fun s => V.int ((L.filter (inc s)).length : Nat))))
              ⟨Same.fresh hD, upd_same⟩ (fun j H' _ pv => SqT.of (pv.1 _ _ hu)) (fun j x H13 hx pv => ?_) (fun H13 pv => ?_)
            · obtain ⟨S13, hD13⟩ := pv
              obtain ⟨s, hs, rfl⟩ : ∃ s : Int, [((i : Nat) : Int), ((o : Nat) : Int)][j]? = some s ∧ x = V.int s := by
                match j, hx with
                | 0, hx => simp at hx; exact ⟨_, rfl, by rw [← hx]⟩
                | 1, hx => simp at hx; exact ⟨_, rfl, by rw [← hx]⟩
                | j + 2, hx => simp at hx
              have I13 := I12.same S13
              obtain ⟨_, _, ps, hps, hpp⟩ := I13
              walk_at "rd"
              refine ⟨rfl, ?_⟩
              walk_at "rd"
              refine ⟨l, rfl, ⟨_, SqL.of hps⟩, fun D2 hD2 => ?_⟩
              refine lc_list (xs := ps.map V.ref) (fun k H' => Same H13 H' ∧ ∃ vs, H' D2 = some (.lst vs) ∧ vs.length = ((L.take k).filter (inc s)).length)
                ⟨Same.fresh hD2, [], upd_same, rfl⟩ (fun k H' _ pv => SqL.of (pv.1 _ _ hps)) (fun k x H14 hx pv => ?_) (fun H14 pv => ?_)
              · obtain ⟨S14, vs, hvs, lv⟩ := pv
                rw [List.getElem?_map] at hx
                obtain ⟨t, ht, rfl⟩ := Option.map_eq_some_iff.mp hx
                obtain ⟨e, he, hte⟩ := paired_get hpp ht
                have hte14 : PairAt H14 t e := S14 _ _ hte
                have hfl : ((L.take (k + 1)).filter (inc s)).length = ((L.take k).filter (inc s)).length + if inc s e = true then 1 else 0 := by
                  rw [List.take_succ, he, List.filter_append, List.length_append]
                  congr 1
                  by_cases z : inc s e = true
                  · simp [z]
                  · simp [z]
                walk_at "rd"
                refine ⟨rfl, ?_⟩
                walk_at "rd"
                refine rd_inI (row := [e.1, e.2]) (.inr (SqT.of hte14)) ?_
                walk_at "rd"
                rw [inc_in]
                by_cases z : inc s e = true
                · refine iteT' z ?_
                  rw [if_pos z] at hfl
                  walk_at "rd"
                  refine ⟨vs, hvs, ?_, Same.put S14 hD2, vs ++ [V.ref t], upd_same, by rw [hfl, List.length_append, lv]; rfl⟩
                  have h1 : ((L.take k).filter (inc s)).length ≤ L.length := by
                    have a := List.length_filter_le (inc s) (L.take k)
                    have b : (L.take k).length ≤ L.length := by rw [List.length_take]; omega
                    omega
                  exact Nat.lt_of_le_of_lt (by omega : vs.length ≤ 100) (by decide)
                · refine iteF' (by simpa using z) ?_
                  rw [if_neg z] at hfl
                  exact ⟨S14, vs, hvs, by rw [hfl, lv]; rfl⟩
              · obtain ⟨S14, vs, hvs, lv⟩ := pv
                rw [List.length_map, paired_len hpp, List.take_length] at lv
                walk_at "rd"
                refine rd_len hvs ?_
                refine ⟨_, S14 _ _ hD13, ?_, Same.put (S13.trans S14) hD, ?_⟩
                · rw [List.length_map, List.length_take]
                  exact Nat.lt_of_le_of_lt (Nat.min_le_right _ _) (by show 2 < sizeLine; decide)
                · rw [upd_same, lv]
                  congr 2
                  have : ([((i : Nat) : Int), ((o : Nat) : Int)].take (j + 1)) = ([((i : Nat) : Int), ((o : Nat) : Int)].take j) ++ [s] := by rw [List.take_succ, hs]; rfl
                  rw [this, List.map_append]
                  rfl
            · obtain ⟨S13, hD13⟩ := pv
              have I13 := I12.same S13
              obtain ⟨Dl13, Fx13, _, hl13, _⟩ := id I13
              walk_at "rd"
              refine rd_max (ns := [((L.filter (inc ((i : Nat) : Int))).length : Int), ((L.filter (inc ((o : Nat) : Int))).length : Int)]) hD13 (Nat.zero_lt_succ _) fun mx mm my => ?_
              have y1 := my _ List.mem_cons_self
              have y2 := my _ (List.mem_cons_of_mem _ List.mem_cons_self)
              walk_at "rd"
              by_cases c1 : mx < 1 + m
              · refine iteT' (decide_eq_true c1) ?_
                walk_at "rd"
                refine ⟨p, q, 3, rfl, Dl13, by decide, by decide, fun H14 w' d14 f14 w0 w3 => ?_⟩
                have I14 := I13.fix lp lq d14 f14
                obtain ⟨_, _, _, hl14, _⟩ := id I14
                walk_at "rd"
                by_cases c2 : 0 < w'
                · refine iteT' (decide_eq_true c2) ?_
                  walk_at "rd"
                  refine rd_ty hl14 ?_
                  walk_at "rd"
                  intro v H15 v0 S15 hv
                  have z1 : (0 : Int) + (i : Nat) = (i : Nat) := by omega
                  have z2 : (0 : Int) + (o : Nat) = (o : Nat) := by omega
                  rw [z1, z2] at hv
                  have hv : PairAt H15 v (((i : Nat) : Int), ((o : Nat) : Int)) := hv
                  obtain ⟨xs, hxs, lxs, I15⟩ := (I14.same S15).app lp lq l00 hv
                  walk_at "rd"
                  refine rd_app hxs (by omega) ?_
                  walk_at "rd"
                  exact ⟨⟨_, _, _, _, _, _, rfl⟩, _, I15, B.app hi (by omega) (by omega)⟩
                · refine iteF' (decide_eq_false c2) ?_
                  walk_at "rd"
                  exact ⟨⟨_, _, _, _, _, _, rfl⟩, L, I14, B.skip⟩
              · refine iteF' (decide_eq_false c1) ?_
                walk_at "rd"
                exact ⟨⟨_, _, _, _, _, _, rfl⟩, L, I13, B.skip⟩
          · obtain ⟨⟨o5, o6, o7, o9, o10, o11, rfl⟩, L, I, B⟩ := pv
            exact ⟨⟨_, _, _, _, _, _, _, rfl⟩, L, I, B.next (by omega)⟩
        · obtain ⟨⟨o5, o6, o7, o8, o9, o10, o11, rfl⟩, L, I, B⟩ := pv
          exact fin _ L _ rfl I B.good
      · refine iteF' (decide_eq_false h3) ?_
        walk_at "rd1"
        walk_at "rd1"
        refine fin _ _ _ rfl I ?_
        rw [← hsp]
        have := goodB_ok (circ_good n n1 n10 f.toNat (by omega))
        have e : ((f.toNat : Nat) : Int) = f := by omega
        rwa [e] at this
end
end K03

namespace K03
open PySem PySem.Spec PyProof.Rows L2 KX
local macro_rules | `(tactic| walk_at "rd1") => `(tactic| first
  | with_reducible refine rd_seq ?_
  | with_reducible refine rd_for ?_
  | with_reducible refine rd_lc ?_
  | with_reducible refine rd_asg ?_
  | ((with_reducible refine' rd_var ?rdv ?_); (case rdv => exact rfl))
  | with_reducible refine rd_c ?_
  | with_reducible refine rd_op ?_
  | with_reducible refine rd_un ?_
  | with_reducible refine rd_cons ?_
  | with_reducible refine rd_nil ?_
  | with_reducible refine rd_call ?_
  | with_reducible refine rd_cb ?_
  | with_reducible refine rd_tB ?_
  | with_reducible refine rd_test ?_
  | with_reducible refine rd_bl ?_
  | with_reducible refine rd_rI0 ?_
  | with_reducible refine rd_eqI ?_
  | with_reducible refine rd_neI ?_
  | with_reducible refine rd_rU ?_
  | with_reducible refine rd_name ?_
  | with_reducible refine rd_ifs ?_
  | with_reducible refine rd_and ?_
  | with_reducible refine rd_or ?_
  | with_reducible refine rd_not ?_
  | with_reducible refine rd_yes ?_
  | with_reducible refine rd_andV ?_
  | with_reducible refine rd_orV ?_
  | with_reducible refine rd_notV ?_
  | with_reducible refine rd_if ?_
  | with_reducible refine rd_isN ?_
  | with_reducible refine rd_iT ?_
  | with_reducible refine rd_iF ?_
  | with_reducible refine rd_ret ?_
  | with_reducible refine rd_retN ?_
  | with_reducible refine rd_drop ?_
  | with_reducible refine rd_next ?_
  | with_reducible refine rd_cont ?_
  | with_reducible refine rd_brk ?_
  | with_reducible refine rd_nx ?_
  | with_reducible refine rd_rt ?_
  | with_reducible refine rd_ct ?_
  | with_reducible refine rd_bk ?_
  | with_reducible refine rd_par ?_
  | with_reducible refine rd_par3 ?_
  | with_reducible refine rd_par2 ?_
  | with_reducible refine rd_par33 ?_
  | with_reducible refine rd_gcons ?_
  | with_reducible refine rd_gnil ?_
  | with_reducible refine rd_sub ?_
  | with_reducible refine rd_tup ?_
  | with_reducible refine rd_lst ?_
  | ((with_reducible refine rd_tupT ?hl ?_); (case hl => exact Nat.le_of_ble_eq_true rfl))
  | ((with_reducible refine rd_lstT ?hl ?_); (case hl => exact Nat.le_of_ble_eq_true rfl))
  | with_reducible refine rd_bm ?_
  | with_reducible refine rd_bm0 ?_
  | with_reducible refine rd_sl ?_
  | with_reducible refine rd_noP ?_
  | with_reducible refine rd_part ?_
  | with_reducible refine rd_int ?_
  | with_reducible refine rd_int1 ?_
  | with_reducible refine rd_fld ?_
  | with_reducible refine rd_then ?_
  | with_reducible refine rd_raise ?_
  | with_reducible refine rd_one ?_
  | with_reducible refine rd_sfld ?_
  | with_reducible refine rd_ilist ?_
  | with_reducible refine rd_itup ?_
  | with_reducible refine rd_rng1 ?_
  | with_reducible refine rd_enum ?_
  | with_reducible refine rd_enumT ?_)
local macro_rules | `(tactic| walk_at "rd") => `(tactic| repeat (walk_at "rd1"))
def spDrawn : Sp := fun vs H Q _ => ∃ (p q : Addr) (k : Int) (n : Nat), vs = [.ref p, .int k, .int (n : Nat)] ∧ Deal H p q ∧ 1 ≤ k ∧ k ≤ 4 ∧ 1 ≤ n ∧ n < 10 ∧
  ∀ (H' : Hp) (t a l : Addr) (ms : List Int) (ps : List Addr) (L : List (Int × Int)), Deal H' p q → Fix p q H H' → H' t = some (.tup [.ref a, .ref l]) → H a = none → H l = none → a ≠ l → a ≠ p → a ≠ q → l ≠ p → l ≠ q →
    H' a = some (.lst (ms.map V.int)) → ms.length = n → (∀ m ∈ ms, 0 ≤ m ∧ m < k) →
    H' l = some (.lst (ps.map V.ref)) → Paired (PairAt H') ps L → Good n 4 L → L.Pairwise lexlt → Q (.ref t) H'
section
variable {P : Program} {w : World} {K : PySem.W.Frag} {mg : Str → Option Value} {base : Heap} (T : TX K mg)
theorem G__law_network : FnOk P w K mg base CX0 3 T.f__law_network T.d__law_network ["deal", "kinds", "many"] spDrawn := by
  refine T.F__law_network.ok sc__law_network (fun vs H Q E h => ?_) fun cdv A outer s H vs Q E hr h => ⟨_, (pss_cons (ps_asg (pe_tup (pa_cons (pe_call (G__law_any T) (hr.mono (by decide)) (by rfl) T.m__law_any T.F__law_any.kp T.b__law_any .nil pass0 (by exact (pa_cons (pv 0) (pa_cons (pv 1) pa_nil)))) (pa_cons (pe_call (G__law_any T) (hr.mono (by decide)) (by rfl) T.m__law_any T.F__law_any.kp T.b__law_any .nil pass0 (by exact (pa_cons (pv 0) (pa_cons pe_int pa_nil)))) pa_nil))) (pg_tupK (K := K) (n := 2) (by rfl) (pgs_cons (pg_name (i := 3) sc__law_network.nd rfl (.inr rfl)) (pgs_cons (pg_name (i := 4) sc__law_network.nd rfl (.inr rfl)) pgs_nil)))) (pss_cons (ps_setLc (i := 5) (own := [("at", 6)]) (by rfl) sc__law_network.nd rfl rfl (sw_true rfl rfl rfl (by decide +kernel)) (pi_range1 (by rfl) T.n_range (by exact (pa_cons (pv 2) pa_nil))) (blkOk_by (own := [("at", 6)]) (N := N__law_network) (sc := defScope s__law_network) (by decide +kernel)) (fun _ _ _ _ _ => (pg_name (i := 6) sc__law_network.nd rfl (.inl rfl))) (fun _ _ _ _ _ => pts_nil) (fun _ _ _ _ _ => (pe_ifExp (pt_cmpR op_eq (pv 4) pe_int (nomark _)) (pe_op op_mod (pe_callTy call_int1 (by rfl) T.n_int (by decide +kernel) (by exact (pa_cons (pe_op op_add (pv 3) (pv 6)) pa_nil))) (pv 1)) (pe_call (G__law_any T) (hr.mono (by decide)) (by rfl) T.m__law_any T.F__law_any.kp T.b__law_any .nil pass0 (by exact (pa_cons (pv 0) (pa_cons (pv 1) pa_nil)))))) ) (pss_one (ps_ret (pe_tup (pa_cons (pv 5) (pa_cons (pe_call (G__law_links T) (hr.mono (by decide)) (by rfl) T.m__law_links T.F__law_links.kp T.b__law_links .nil pass0 (by exact (pa_cons (pv 0) (pa_cons (pv 2) pa_nil)))) pa_nil))))))), ?_⟩
  · obtain ⟨p, q, k, n, rfl, _⟩ := h
    rfl
  · obtain ⟨p, q, k, n, rfl, d, k1, k4, n1, n10, hQ⟩ := h
    walk_at "rd"
    refine ⟨p, q, k, rfl, d, by omega, by omega, fun H1 st d1 f1 st0 stk => ?_⟩
    walk_at "rd"
    refine ⟨p, q, 3, rfl, d1, by omega, by omega, fun H2 tn d2 f2 t0 t3 => ?_⟩
    walk_at "rd"
    intro t H3 tt0 S3 ht
    refine rd_gtup (Tup.of ht) rfl ?_
    have d3 := d2.same S3
    walk_at "rd"
    refine ⟨by omega, by omega, fun D hD => ?_⟩
    obtain ⟨d4, Dp, Dq⟩ := d3.new (o := .lst []) hD
    have D0 : H D = none := f1.free d1 (f2.free d2 (S3.free hD))
    refine lc_range (lo := 0) (n := n) (fun i H' => Deal H' p q ∧ Fix p q H3 H' ∧ ∃ ms : List Int, H' D = some (.lst (ms.map V.int)) ∧ ms.length = i ∧ ∀ m ∈ ms, 0 ≤ m ∧ m < k)
      ⟨d4, Fix.new hD, [], upd_same, rfl, by simp⟩ (fun i H' hi pv => ?_) (fun H' pv => ?_)
    · obtain ⟨d5, f5, ms, hms, lms, bms⟩ := pv
      have put : ∀ (H6 : Hp) (j : Int), Deal H6 p q → Fix p q H' H6 → 0 ≤ j → j < k → ∃ acc, H6 D = some (.lst acc) ∧ acc.length < sizeLine ∧ (Deal (upd H6 D (.lst (acc ++ [V.int j]))) p q ∧ Fix p q H3 (upd H6 D (.lst (acc ++ [V.int j]))) ∧
          ∃ ms : List Int, upd H6 D (.lst (acc ++ [V.int j])) D = some (.lst (ms.map V.int)) ∧ ms.length = i + 1 ∧ ∀ m ∈ ms, 0 ≤ m ∧ m < k) := fun H6 j d6 f6 j0 jk => by
        refine ⟨_, f6 _ _ Dp Dq hms, ?_, d6.off Dp Dq, (f5.trans f6).upd hD, ms ++ [j], ?_, by simp [lms], fun m hm => ?_⟩
        · rw [List.length_map]
          exact Nat.lt_of_le_of_lt (by omega : ms.length ≤ 100) (by decide)
        · rw [upd_same]; simp
        · rcases List.mem_append.mp hm with z | z
          · exact bms m z
          · rw [List.mem_singleton.mp z]; omega
      walk_at "rd"
      refine ⟨rfl, ?_⟩
      walk_at "rd"
      by_cases c : tn = 0
      · refine iteT' (decide_eq_true c) ?_
        walk_at "rd"
        refine .inl ⟨_, rfl, ?_⟩
        walk_at "rd"
        refine rd_rI (by omega) ?_
        exact put H' _ d5 (Fix.refl _ _ _) (Int.emod_nonneg _ (by omega)) (Int.emod_lt_of_pos _ (by omega))
      · refine iteF' (decide_eq_false c) ?_
        walk_at "rd"
        refine ⟨p, q, k, rfl, d5, by omega, by omega, fun H6 j d6 f6 j0 jk => ?_⟩
        exact put H6 j d6 f6 j0 jk
    · obtain ⟨d5, f5, ms, hms, lms, bms⟩ := pv
      walk_at "rd"
      refine ⟨p, q, n, rfl, d5, n1, n10, fun H6 l ps L d6 f6 l0 lp lq hl hps g sr => ?_⟩
      walk_at "rd"
      intro t' H7 t'0 S7 ht'
      have hms6 := f6 _ _ Dp Dq hms
      have Dl : D ≠ l := fun z => by rw [z, l0] at hms; cases hms
      exact hQ H7 t' D l ms ps L (d6.same S7) (f1.trans (f2.trans ((Fix.same S3).trans (f5.trans (f6.trans (Fix.same S7)))))) ht' D0 (f1.free d1 (f2.free d2 (S3.free (f5.free d5 l0)))) Dl Dp Dq lp lq
        (S7 _ _ hms6) lms bms (S7 _ _ hl) (pairs_same hps S7) g sr
end
end K03

namespace K03
open PySem PySem.Spec PyProof.Rows L2 KX
local macro_rules | `(tactic| walk_at "rd1") => `(tactic| first
  | with_reducible refine rd_seq ?_
  | with_reducible refine rd_for ?_
  | with_reducible refine rd_lc ?_
  | with_reducible refine rd_asg ?_
  | ((with_reducible refine' rd_var ?rdv ?_); (case rdv => exact rfl))
  | with_reducible refine rd_c ?_
  | with_reducible refine rd_op ?_
  | with_reducible refine rd_un ?_
  | with_reducible refine rd_cons ?_
  | with_reducible refine rd_nil ?_
  | with_reducible refine rd_call ?_
  | with_reducible refine rd_cb ?_
  | with_reducible refine rd_tB ?_
  | with_reducible refine rd_test ?_
  | with_reducible refine rd_bl ?_
  | with_reducible refine rd_rI0 ?_
  | with_reducible refine rd_eqI ?_
  | with_reducible refine rd_neI ?_
  | with_reducible refine rd_rU ?_
  | with_reducible refine rd_name ?_
  | with_reducible refine rd_ifs ?_
  | with_reducible refine rd_and ?_
  | with_reducible refine rd_or ?_
  | with_reducible refine rd_not ?_
  | with_reducible refine rd_yes ?_
  | with_reducible refine rd_andV ?_
  | with_reducible refine rd_orV ?_
  | with_reducible refine rd_notV ?_
  | with_reducible refine rd_if ?_
  | with_reducible refine rd_isN ?_
  | with_reducible refine rd_iT ?_
  | with_reducible refine rd_iF ?_
  | with_reducible refine rd_ret ?_
  | with_reducible refine rd_retN ?_
  | with_reducible refine rd_drop ?_
  | with_reducible refine rd_next ?_
  | with_reducible refine rd_cont ?_
  | with_reducible refine rd_brk ?_
  | with_reducible refine rd_nx ?_
  | with_reducible refine rd_rt ?_
  | with_reducible refine rd_ct ?_
  | with_reducible refine rd_bk ?_
  | with_reducible refine rd_par ?_
  | with_reducible refine rd_par3 ?_
  | with_reducible refine rd_par2 ?_
  | with_reducible refine rd_par33 ?_
  | with_reducible refine rd_gcons ?_
  | with_reducible refine rd_gnil ?_
  | with_reducible refine rd_sub ?_
  | with_reducible refine rd_tup ?_
  | with_reducible refine rd_lst ?_
  | ((with_reducible refine rd_tupT ?hl ?_); (case hl => exact Nat.le_of_ble_eq_true rfl))
  | ((with_reducible refine rd_lstT ?hl ?_); (case hl => exact Nat.le_of_ble_eq_true rfl))
  | with_reducible refine rd_bm ?_
  | with_reducible refine rd_bm0 ?_
  | with_reducible refine rd_sl ?_
  | with_reducible refine rd_noP ?_
  | with_reducible refine rd_part ?_
  | with_reducible refine rd_int ?_
  | with_reducible refine rd_int1 ?_
  | with_reducible refine rd_fld ?_
  | with_reducible refine rd_then ?_
  | with_reducible refine rd_raise ?_
  | with_reducible refine rd_one ?_
  | with_reducible refine rd_sfld ?_
  | with_reducible refine rd_ilist ?_
  | with_reducible refine rd_itup ?_
  | with_reducible refine rd_rng1 ?_
  | with_reducible refine rd_enum ?_
  | with_reducible refine rd_enumT ?_)
local macro_rules | `(tactic| walk_at "rd") => `(tactic| repeat (walk_at "rd1"))
/-- a comprehension over a list or a tuple, its values told -/
theorem lcv_both {K : PySem.W.Frag} {g : TG} {te ti : TE} {vs : List Nat} {σ : L2.St} {H1 : Hp} {x : V} {xs : List V} {Q : Addr → Hp → Prop} (zs : List V) (hx : SqX K H1 x (some xs)) (hi : ∀ R : VK, R x H1 → ti σ H1 R) (lz : zs.length = xs.length) (hz : zs.length < 1000000)
    (hs : ∀ (i : Nat) (x z : V) (H' : Hp), xs[i]? = some x → zs[i]? = some z → Same H1 H' → ∀ R : VK, (∀ H4, Same H' H4 → R z H4) → g x (wipe σ vs) H' fun σ2 H2 => wipe σ2 vs = wipe σ vs ∧ te σ2 H2 R)
    (hd : ∀ H' D, Same H1 H' → H' D = some (.lst zs) → Q D H') {R : It → Hp → Prop} (hR : R = fun J H1 => ∀ D, H1 D = none → ∃ W : Nat → Nat → Hp → Prop, (∃ m, W 0 m (upd H1 D (.lst []))) ∧ ∀ i m H, W i m H →
      (J.stop i H ∧ Q D H) ∨ (J.go i H ∧ ∃ Nx : Hp → Prop, (∀ H', Nx H' → ∃ m', m' < m ∧ W (i + 1) m' H') ∧ ∀ x H', J.yld i H x H' → g x (wipe σ vs) H' fun σ2 H2 => wipe σ2 vs = wipe σ vs ∧ tYes σ2 H2 fun b H3 =>
        if b = true then te σ2 H3 fun y H4 => ∃ acc, H4 D = some (.lst acc) ∧ acc.length < sizeLine ∧ Nx (upd H4 D (.lst (acc ++ [y]))) else Nx H3)) : iList K ti σ H1 R ∨ iTup K ti σ H1 R := by
  subst hR
  cases hx with
  | lst h => exact .inl (hi _ ⟨_, rfl, ⟨_, SqL.of h⟩, fun D hD => lcv_list zs h lz hz hD hs fun H' S e => hd H' D S e⟩)
  | tup h => exact .inr (hi _ ⟨_, rfl, ⟨_, h.sq⟩, fun D hD => lcv_tup zs h lz hz hD hs fun H' S e => hd H' D S e⟩)
/-- a tuple of so many -/
def spIsTup (K : PySem.W.Frag) : L2.Sp := fun vs H Q _ => ∃ (x : V) (k : Int), vs = [x, .int k] ∧
  ((∃ n, TyX K H x (.type n) ∧ kitB n "tuple" = some false ∧ Q (.bl false) H) ∨ ∃ a xs, x = .ref a ∧ Tup H a xs ∧ Q (.bl (decide ((xs.length : Int) = k))) H)
inductive NbIs (K : PySem.W.Frag) (H : Hp) : V → Bool → Prop
  | oth {x : V} (s : SqX K H x none) : NbIs K H x false
  | long {x : V} {xs : List V} (s : SqX K H x (some xs)) (l : 4 < xs.length) : NbIs K H x false
  | all {x : V} {xs : List V} {os : List (Option Int)} (s : SqX K H x (some xs)) (k : Paired (Kin K H) xs os) (l : xs.length ≤ 4) : NbIs K H x (os.all bel4)
def spNb (K : PySem.W.Frag) : L2.Sp := fun vs H Q _ => ∃ x b, vs = [x] ∧ NbIs K H x b ∧ ∀ H', Same H H' → Q (.bl b) H'
section
variable {P : Program} {w : World} {K : PySem.W.Frag} {mg : Str → Option Value} {base : Heap} (T : TX K mg)
theorem G_is_tuple_of : FnOk P w K mg base CX0 1 T.f_is_tuple_of T.d_is_tuple_of ["value", "length"] (spIsTup K) := by
  refine T.F_is_tuple_of.ok sc_is_tuple_of (fun vs H Q E h => ?_) fun cdv A outer s H vs Q E hr h => ⟨_, (pss_one (ps_ret (pe_and (pe_callB (cr_isiK (K := K)) (by rfl) T.n_isinstance (by decide +kernel) (by exact (pa_cons (pv 0) (pa_cons (pe_bltn (v := .ty "tuple") rfl T.n_tuple (by decide +kernel) rfl) pa_nil)))) (pe_one (pe_cmpR op_eq (pe_callB (cr_lenK (K := K)) (by rfl) T.n_len (by decide +kernel) (by exact (pa_cons (pv 0) pa_nil))) (pv 1) (nomark _)))))), ?_⟩
  · obtain ⟨x, k, rfl, _⟩ := h
    rfl
  · obtain ⟨x, k, rfl, h⟩ := h
    walk_at "rd"
    rcases h with ⟨n, ty, k1, hQ⟩ | ⟨a, xs, rfl, ha, hQ⟩
    · refine ⟨_, _, _, _, _, rfl, .ty "tuple", ty, kit_ty k1, ?_⟩
      walk_at "rd"
      exact hQ
    · refine ⟨_, _, _, _, true, rfl, .ty "tuple", ha.ty, kit_ty (by decide +kernel), ?_⟩
      walk_at "rd"
      refine rd_lenTup ha ?_
      walk_at "rd"
      exact hQ
theorem G_are_neighbours : FnOk P w K mg base CX0 5 T.f_are_neighbours T.d_are_neighbours ["value"] (spNb K) := by
  refine T.F_are_neighbours.ok sc_are_neighbours (fun vs H Q E h => ?_) fun cdv A outer s H vs Q E hr h => ⟨_, (pss_cons (ps_if (PW.pt (pw_or (pt_not (pt_val (pe_call (G_is_sequence T) (hr.mono (by decide)) (by rfl) T.m_is_sequence T.F_is_sequence.kp T.b_is_sequence .nil pass0 (by exact (pa_cons (pv 0) pa_nil))))) (pw_or1 (pt_cmpR op_gt (pe_callB (cr_lenK (K := K)) (by rfl) T.n_len (by decide +kernel) (by exact (pa_cons (pv 0) pa_nil))) (pe_glob (v := .int 4) rfl T.m_MOST_NEIGHBOURS ⟨_, rfl⟩) (nomark _))))) (pss_one (ps_ret pe_bl)) pss_nil) (pss_one (ps_ret (pe_callB (cr_allK (K := K) rfl) (by rfl) T.n_all (by decide +kernel) (by exact (pa_cons (by exact (pe_lc (own := [("mode", 1)]) (by rfl) sc_are_neighbours.nd (PI.or (pi_listK (K := K) (pv 0)) (pi_tupK (K := K) (pv 0))) (blkOk_by (own := [("mode", 1)]) (N := N_are_neighbours) (sc := defScope s_are_neighbours) (by decide +kernel)) (fun _ _ _ _ _ => (pg_name (i := 1) sc_are_neighbours.nd rfl (.inl rfl))) (fun _ _ _ _ _ => pts_nil) (fun _ _ _ _ _ => (pe_call (G_is_mode T) (hr.mono (by decide)) (by rfl) T.m_is_mode T.F_is_mode.kp T.b_is_mode .nil pass0 (by exact (pa_cons (pv 1) pa_nil)))) )) pa_nil)))))), ?_⟩
  · obtain ⟨x, b, rfl, _⟩ := h
    rfl
  · obtain ⟨x, b, rfl, hn, hQ⟩ := h
    walk_at "rd"
    cases hn with
    | oth s =>
      refine ⟨_, _, rfl, s, fun H1 S1 => ?_⟩
      walk_at "rd"
      refine rd_iT ?_
      walk_at "rd"
      exact hQ H1 S1
    | @long xs s l =>
      refine ⟨_, _, rfl, s, fun H1 S1 => ?_⟩
      walk_at "rd"
      refine rd_iF ?_
      walk_at "rd"
      obtain ⟨a, rfl, hs⟩ := (sqx_same s S1).any
      refine rd_lenB hs ?_
      walk_at "rd"
      refine iteT' (decide_eq_true (by omega)) ?_
      walk_at "rd"
      exact hQ H1 S1
    | @all xs os s k l =>
      refine ⟨_, _, rfl, s, fun H1 S1 => ?_⟩
      walk_at "rd"
      refine rd_iF ?_
      walk_at "rd"
      have s1 := sqx_same s S1
      have k1 := kins_same k S1
      have lo := paired_len k
      obtain ⟨a, rfl, hs⟩ := s1.any
      refine rd_lenB hs ?_
      walk_at "rd"
      refine iteF' (decide_eq_false (by omega)) ?_
      walk_at "rd"
      refine lcv_both (xs := xs) (os.map fun o => V.bl (bel4 o)) s1 (by intro R r; exact rd_var rfl r) (by rw [List.length_map]; omega) (by rw [List.length_map]; omega) (fun i x z H2 hx hz S2 R hR => ?_) (fun H2 D S2 hD => ?_) rfl
      · rw [List.getElem?_map] at hz
        obtain ⟨o, ho, rfl⟩ := Option.map_eq_some_iff.mp hz
        obtain ⟨o', ho', ko⟩ := paired_get k1 hx
        rw [ho] at ho'
        cases ho'
        walk_at "rd"
        refine ⟨rfl, ?_⟩
        walk_at "rd"
        exact ⟨_, _, rfl, kin_same ko S2, hR H2 (Same.refl _)⟩
      · walk_at "rd"
        have e : (os.map fun o => V.bl (bel4 o)) = (os.map bel4).map V.bl := by simp
        rw [e] at hD
        refine ⟨D, os.map bel4, rfl, SqL.of hD, ?_⟩
        have e2 : (os.map bel4).all id = os.all bel4 := by simp [List.all_map]
        rw [e2]
        exact hQ H2 (S1.trans S2)
end
end K03

namespace K03
open PySem PySem.Spec PyProof.Rows L2 KX
/-! ### networks made, and refused -/
/-- the first index where it goes wrong -/
def BadAt (os : List (Option Int)) (i : Nat) : Prop := (∃ o, os[i]? = some o ∧ bel4 o = false) ∧ ∀ j o', j < i → os[j]? = some o' → bel4 o' = true
theorem BadAt.uniq {os : List (Option Int)} {i j : Nat} (h : BadAt os i) (h' : BadAt os j) : i = j := by
  obtain ⟨⟨o, e, b⟩, f⟩ := h
  obtain ⟨⟨o', e', b'⟩, f'⟩ := h'
  rcases Nat.lt_trichotomy i j with z | z | z
  · rw [f' i o z e] at b; cases b
  · exact z
  · rw [f j o' z e'] at b'; cases b'
/-- the first link that cannot be -/
def BadL (n : Nat) (es : List (Option (Int × Int))) (i : Nat) : Prop := ∃ e R, es[i]? = some e ∧ runP (emptyR n) (es.take i) = some R ∧ okL R e = false
theorem runP_take : ∀ (es : List (Option (Int × Int))) (i : Nat) (R R' : List (List Int)), runP R es = some R' → ∃ R1, runP R (es.take i) = some R1
  | es, 0, R, R', _ => ⟨R, by rw [List.take_zero]; rfl⟩
  | [], i + 1, R, R', _ => ⟨R, rfl⟩
  | e :: es, i + 1, R, R', h => by
    cases hs : stepL R e with
    | none =>
      have h : (stepL R e).bind (fun R' => runP R' es) = some R' := h
      rw [hs] at h; cases h
    | some R2 =>
      have h' : (stepL R e).bind (fun R' => runP R' es) = some R' := h
      rw [hs] at h'
      obtain ⟨R1, h1⟩ := runP_take es i R2 R' h'
      refine ⟨R1, ?_⟩
      show (stepL R e).bind (fun R' => runP R' (es.take i)) = some R1
      rw [hs]
      exact h1
theorem BadL.next {n : Nat} {es : List (Option (Int × Int))} {i : Nat} (h : BadL n es i) : runP (emptyR n) (es.take (i + 1)) = none := by
  obtain ⟨e, R, h1, h2, h3⟩ := h
  have : es.take (i + 1) = es.take i ++ [e] := by rw [List.take_succ, h1]; rfl
  rw [this, runP_snoc, h2]
  show stepL R e = none
  unfold stepL
  rw [if_neg (by rw [h3]; decide)]
theorem BadL.none {n : Nat} {es : List (Option (Int × Int))} {i j : Nat} (h : BadL n es i) (hj : i < j) : runP (emptyR n) (es.take j) = none := by
  cases e : runP (emptyR n) (es.take j) with
  | none => rfl
  | some R =>
    obtain ⟨R1, h1⟩ := runP_take _ (i + 1) _ _ e
    rw [List.take_take, Nat.min_eq_left hj, h.next] at h1
    cases h1
theorem BadL.uniq {n : Nat} {es : List (Option (Int × Int))} {i j : Nat} (h : BadL n es i) (h' : BadL n es j) : i = j := by
  rcases Nat.lt_trichotomy i j with z | z | z
  · obtain ⟨_, R, _, h2, _⟩ := h'
    rw [h.none z] at h2; cases h2
  · exact z
  · obtain ⟨_, R, _, h2, _⟩ := h
    rw [h'.none z] at h2; cases h2
theorem BadL.bad {n : Nat} {es : List (Option (Int × Int))} {i : Nat} (h : BadL n es i) : runP (emptyR n) es = .none := by
  obtain ⟨e, R, h1, h2, h3⟩ := id h
  have hi := (List.getElem?_eq_some_iff.mp h1).1
  have := h.none (j := es.length) hi
  rwa [List.take_length] at this
section
variable {K : PySem.W.Frag} {C CI s dx : Addr} {x z : V} {H : Hp} {Q : VK} {E : XK}
abbrev made (H : Hp) (C s dx : Addr) : Hp := upd (upd H dx (.own s)) s (.ins C dx [])
theorem made_same (hs : H s = none) (hd : H dx = none) : Same H (made H C s dx) := fun a o e => by
  show upd (upd H dx (.own s)) s _ a = some o
  rw [upd_ne (fun y => by rw [y, hs] at e; cases e), upd_ne (fun y => by rw [y, hd] at e; cases e)]
  exact e
theorem ex_same {H' : Hp} (hs : H s = none) (hd : H dx = none) (h : Ex s (made H C s dx) H') : Same H H' := fun a o e =>
  h a o (fun y => by rw [y, hs] at e; cases e) (made_same hs hd a o e)
/-- what a handler of refusals gets -/
def Told (CI : Addr) (E : XK) (H : Hp) (i : Int) : Prop := ∀ H' d, Same H H' → H' d = none → E (.ref CI) (some d) (upd H' d (.xd [(("at" : Str), .int i)]))
theorem told_x {i : Int} (h : Told CI E H i) (hs : H s = none) (hd : H dx = none) : ErrX CI E s (made H C s dx) i := fun H' d e hd' => h H' d (ex_same hs hd e) hd'
/-- modes that are none -/
theorem net_badM {o : Option (List V)} {i : Nat} (hs : H s = none) (hd : H dx = none) (hx : SqX K H x o)
    (hb : (o = none ∨ o = some []) ∧ i = 0 ∨ ∃ xs os, o = some xs ∧ Paired (Kin K H) xs os ∧ BadAt os i) (hE : Told CI E H i) : spNet K C CI [.ref s, x, z] (made H C s dx) Q E := by
  have S : Same H (made H C s dx) := made_same hs hd
  refine ⟨s, dx, x, z, o, rfl, upd_same, sqx_same hx S, fun e => ?_, fun e => ?_, fun xs e h0 => ?_⟩
  · rcases hb with ⟨_, rfl⟩ | ⟨xs, os, e', _⟩
    · exact told_x hE hs hd
    · rw [e'] at e; cases e
  · rcases hb with ⟨_, rfl⟩ | ⟨xs, os, e', p, ⟨o', h1, h2⟩, _⟩
    · exact told_x hE hs hd
    · rw [e'] at e; cases e
      cases p
      simp at h1
  · rcases hb with ⟨e' | e', rfl⟩ | ⟨xs', os, e', p, b⟩
    · rw [e'] at e; cases e
    · rw [e'] at e; cases e; exact absurd rfl h0
    · rw [e'] at e; cases e
      refine ⟨os, paired_mono p fun _ _ k => kin_same k S, fun j o' h1 h2 h3 => ?_, fun all => ?_⟩
      · have : i = j := b.uniq ⟨⟨o', h1, h3⟩, h2⟩
        subst this
        exact told_x hE hs hd
      · obtain ⟨⟨o', h1, h2⟩, _⟩ := b
        rw [all o' (List.mem_of_getElem? h1)] at h2; cases h2
theorem bel4_of {m : Int} (h0 : 0 ≤ m) (h1 : m < 4) : bel4 (some m) = true := by
  show (decide (0 ≤ m) && decide (m < 4)) = true
  rw [decide_eq_true h0, decide_eq_true h1]; rfl
theorem kin_all (K : PySem.W.Frag) (H : Hp) : ∀ ms : List Int, Paired (Kin K H) (ms.map V.int) (ms.map some)
  | [] => .nil
  | m :: ms => .cons (.int m) (kin_all K H ms)
/-- good modes, links that are none -/
theorem net_badL {ms : List Int} {o : Option (List V)} {i : Nat} (hs : H s = none) (hd : H dx = none) (hx : SqX K H x (some (ms.map V.int))) (m0 : ms ≠ []) (ml : ms.length < 1000) (mb : ∀ m ∈ ms, 0 ≤ m ∧ m < 4) (hz : SqX K H z o)
    (hb : o = none ∧ i = 0 ∨ ∃ zs es, o = some zs ∧ Paired (LkIs K H ms.length) zs es ∧ BadL ms.length es i) (hE : Told CI E H ((ms.length : Nat) + i)) : spNet K C CI [.ref s, x, z] (made H C s dx) Q E := by
  have S : Same H (made H C s dx) := made_same hs hd
  refine ⟨s, dx, x, z, _, rfl, upd_same, sqx_same hx S, fun e => (by cases e), fun e => ?_, fun xs e h0 => ?_⟩
  · exact absurd (List.map_eq_nil_iff.mp (Option.some.inj e)) m0
  · cases e
    refine ⟨ms.map some, kin_all K _ ms, fun j o' h1 _ h3 => ?_, fun _ => ⟨by rw [List.length_map]; exact ml, ms, rfl, o, sqx_same hz S, fun e => ?_, fun zs e => ?_⟩⟩
    · rw [List.getElem?_map] at h1
      obtain ⟨m, hm, rfl⟩ := Option.map_eq_some_iff.mp h1
      obtain ⟨a, b⟩ := mb m (List.mem_of_getElem? hm)
      rw [bel4_of a b] at h3; cases h3
    · rcases hb with ⟨_, rfl⟩ | ⟨zs, es, e', _⟩
      · have : ((ms.length : Nat) : Int) + ((0 : Nat) : Int) = (ms.length : Nat) := by omega
        rw [this] at hE
        exact told_x hE hs hd
      · rw [e'] at e; cases e
    · rcases hb with ⟨e', _⟩ | ⟨zs', es, e', p, b⟩
      · rw [e'] at e; cases e
      · rw [e'] at e; cases e
        refine ⟨es, paired_mono p fun _ _ k => k.same S, fun j e R h1 h2 h3 => ?_, fun R hR => ?_⟩
        · have : i = j := b.uniq ⟨e, R, h1, h2, h3⟩
          subst this
          exact told_x hE hs hd
        · rw [b.bad] at hR; cases hR
theorem le4_run : ∀ (M : List (Int × Int)) (R R' : List (List Int)), (∀ e ∈ M, 0 ≤ e.1 ∧ 0 ≤ e.2 ∧ e.1 ≠ e.2) → Le4 R → runP R (M.map some) = some R' → Le4 R'
  | [], R, R', _, h, e => by cases e; exact h
  | (a, b) :: M, R, R', hM, h, e => by
    have e : (stepL R (some (a, b))).bind (fun R1 => runP R1 (M.map some)) = some R' := e
    cases hs : stepL R (some (a, b)) with
    | none => rw [hs] at e; cases e
    | some R1 =>
      rw [hs] at e
      obtain ⟨h1, h2, h3⟩ := hM _ List.mem_cons_self
      have h1 : 0 ≤ a := h1
      have h2 : 0 ≤ b := h2
      have h3 : a ≠ b := h3
      exact le4_run M R1 R' (fun e he => hM e (List.mem_cons_of_mem _ he)) (h.step (fun x y z => by cases z; omega) hs) e
theorem le4_empty (n : Nat) : Le4 (emptyR n) := fun row hr => by
  unfold emptyR at hr
  rw [(List.mem_replicate.mp hr).2]
  exact Nat.zero_le _
/-- good modes, good links -/
theorem net_good {ms : List Int} {zs : List V} {L M : List (Int × Int)} (hs : H s = none) (hd : H dx = none) (hx : SqX K H x (some (ms.map V.int))) (m0 : ms ≠ []) (ml : ms.length < 1000) (mb : ∀ m ∈ ms, 0 ≤ m ∧ m < 4) (hz : SqX K H z (some zs))
    (hp : Paired (LkIs K H ms.length) zs (M.map some)) (g : Good ms.length 4 L) (srt : L.Pairwise lexlt) (pm : (M.map norm).Perm L)
    (hQ : ∀ H' R', Same H H' → NetAt C H' s ms R' L → Q .non H') : spNet K C CI [.ref s, x, z] (made H C s dx) Q E := by
  have S : Same H (made H C s dx) := made_same hs hd
  obtain ⟨R0, hR0, _⟩ := runs_nb (runs_of g pm) M.length (Nat.le_refl _)
  rw [List.take_length] at hR0
  have rs := runs_of g pm
  have hM : ∀ e ∈ M, 0 ≤ e.1 ∧ 0 ≤ e.2 ∧ e.1 ≠ e.2 := fun e he => by
    obtain ⟨i, hi⟩ := List.getElem?_of_mem he
    obtain ⟨a, _, b, _, c, _⟩ := rs i e hi
    exact ⟨a, b, c⟩
  refine ⟨s, dx, x, z, _, rfl, upd_same, sqx_same hx S, fun e => (by cases e), fun e => ?_, fun xs e h0 => ?_⟩
  · exact absurd (List.map_eq_nil_iff.mp (Option.some.inj e)) m0
  · cases e
    refine ⟨ms.map some, kin_all K _ ms, fun j o' h1 _ h3 => ?_, fun _ => ⟨by rw [List.length_map]; exact ml, ms, rfl, _, sqx_same hz S, fun e => (by cases e), fun zs' e => ?_⟩⟩
    · rw [List.getElem?_map] at h1
      obtain ⟨m, hm, rfl⟩ := Option.map_eq_some_iff.mp h1
      obtain ⟨a, b⟩ := mb m (List.mem_of_getElem? hm)
      rw [bel4_of a b] at h3; cases h3
    · cases e
      refine ⟨M.map some, paired_mono hp fun _ _ k => k.same S, fun j e R h1 h2 h3 => ?_, fun R hR h4 H' R' ex pr net => ?_⟩
      · have b : BadL ms.length (M.map some) j := ⟨e, R, h1, h2, h3⟩
        rw [b.bad] at hR0; cases hR0
      · rw [edges_back g srt pm hR pr] at net
        exact hQ H' R' (ex_same hs hd ex) net
end
theorem norm_id {L : List (Int × Int)} (h : ∀ e ∈ L, e.1 < e.2) : L.map norm = L := by
  induction L with
  | nil => rfl
  | cons e L ih =>
    rw [List.map_cons, ih fun x hx => h x (List.mem_cons_of_mem _ hx)]
    have := h e List.mem_cons_self
    unfold norm
    rw [if_pos (by omega)]
theorem norm_good {n d : Nat} {L : List (Int × Int)} (g : Good n d L) : (L.map norm).Perm L := by
  rw [norm_id fun e he => (g.rng e he).2.1]
theorem lk_pairs {K : PySem.W.Frag} {H : Hp} {n : Nat} {ps : List Addr} {L : List (Int × Int)} (h : Paired (PairAt H) ps L) (r : ∀ e ∈ L, 0 ≤ e.1 ∧ e.1 < e.2 ∧ e.2 < n) : Paired (LkIs K H n) (ps.map V.ref) (L.map some) := by
  induction h with
  | nil => exact .nil
  | @cons p e ps L a _ ih =>
    obtain ⟨h1, h2, h3⟩ := r e List.mem_cons_self
    exact .cons (.ok (.tup (Tup.of a)) h1 (by omega) (by omega) h3 (by omega)) (ih fun x hx => r x (List.mem_cons_of_mem _ hx))
/-! ### how many links there are -/
theorem split_len {α : Type} (f : α → Bool) : ∀ L : List α, L.length = (L.filter f).length + (L.filter fun x => !f x).length
  | [] => rfl
  | x :: L => by
    have := split_len f L
    rw [List.filter_cons, List.filter_cons]
    by_cases h : f x = true
    · simp [h]; omega
    · simp [h]; omega
theorem fst_len {d : Nat} : ∀ (n : Nat) (L : List (Int × Int)), (∀ e ∈ L, 0 ≤ e.1 ∧ e.1 < n) → (∀ s : Int, (L.filter fun e => decide (e.1 = s)).length ≤ d) → L.length ≤ n * d
  | 0, L, h, _ => by
    cases L with
    | nil => simp
    | cons e L => have := h e List.mem_cons_self; omega
  | n + 1, L, h, hd => by
    rw [split_len (fun e => decide (e.1 = ((n : Nat) : Int))) L]
    have h1 := hd ((n : Nat) : Int)
    have h2 := fst_len n (L.filter fun e => !decide (e.1 = ((n : Nat) : Int))) (fun e he => by
      obtain ⟨a, b⟩ := List.mem_filter.mp he
      have := h e a
      simp at b
      omega) fun s => by
        have : ((L.filter fun e => !decide (e.1 = ((n : Nat) : Int))).filter fun e => decide (e.1 = s)).length ≤ (L.filter fun e => decide (e.1 = s)).length := by
          rw [List.filter_filter]
          have e : (L.filter fun e => decide (e.1 = s) && !decide (e.1 = ((n : Nat) : Int))) = ((L.filter fun e => decide (e.1 = s)).filter fun e => !decide (e.1 = ((n : Nat) : Int))) := by
            rw [List.filter_filter]
            congr 1
            funext e
            exact Bool.and_comm _ _
          rw [e]
          exact List.length_filter_le _ _
        exact Nat.le_trans this (hd s)
    rw [Nat.add_mul]; omega
theorem good_len {n : Nat} {L : List (Int × Int)} (g : Good n 4 L) : L.length ≤ n * 4 :=
  fst_len n L (fun e he => by have := g.rng e he; omega) fun s => by
    refine Nat.le_trans ?_ (g.deg s)
    have e : (L.filter fun e => decide (e.1 = s)) = (L.filter (inc s)).filter fun e => decide (e.1 = s) := by
      rw [List.filter_filter]
      congr 1
      funext e
      unfold inc
      by_cases h : e.1 = s <;> simp [h]
    rw [e]
    exact List.length_filter_le _ _
theorem good_tail {n : Nat} {e : Int × Int} {L : List (Int × Int)} (g : Good n 4 (e :: L)) : Good n 4 L :=
  ⟨fun x hx => g.rng x (List.mem_cons_of_mem _ hx), (List.nodup_cons.mp g.nd).2, fun s => by
    have := g.deg s
    rw [List.filter_cons] at this
    split at this
    · simp only [List.length_cons] at this; omega
    · exact this⟩
theorem net_nl {H H' : Hp} {C n : Addr} {ms : List Int} {R : List (List Int)} {L : List (Int × Int)} (h : NetAt C H n ms R L) (k : ∀ a o, H a = some o → (∀ xs, o ≠ .lst xs) → (∀ ps, o ≠ .tbl ps) → H' a = some o) : NetAt C H' n ms R L := by
  obtain ⟨dx, pm, pn, pl, qs, ps, h1, h2, h3, h4, h5, h6⟩ := h.ob
  have tp : ∀ {a xs}, H a = some (.tup xs) → H' a = some (.tup xs) := fun h => k _ _ h (fun _ e => nomatch e) (fun _ e => nomatch e)
  have tr : ∀ {a xs}, Tup H a xs → Tup H' a xs := fun h => by
    rcases h with h | ⟨o, h⟩
    · exact .inl (tp h)
    · exact .inr ⟨o, k _ _ h (fun xs e => nomatch e) (fun ps e => nomatch e)⟩
  exact ⟨dx, pm, pn, pl, qs, ps, k _ _ h1 (fun xs e => nomatch e) (fun ps e => nomatch e), tr h2, tp h3, paired_mono h4 fun _ _ z => tr z, tp h5, paired_mono h6 fun _ _ z => tp z⟩
theorem nl_upd {H : Hp} {l : Addr} {xs ys : List V} (hl : H l = some (.lst xs)) : ∀ a o, H a = some o → (∀ xs, o ≠ .lst xs) → (∀ ps, o ≠ .tbl ps) → upd H l (.lst ys) a = some o := fun a o h n _ => by
  rw [upd_ne (fun z => by rw [z, hl] at h; exact n _ (Option.some.inj h).symm)]
  exact h
/-! ### the rows of sorted links -/
theorem nb_cons (e : Int × Int) (L : List (Int × Int)) (a : Int) : nb (e :: L) a = (if e.1 = a then [e.2] else if e.2 = a then [e.1] else []) ++ nb L a := by
  have h : nb (e :: L) a = nb [e] a ++ nb L a := nb_append [e] L a
  rw [h]
  obtain ⟨x, y⟩ := e
  rw [nb_one]
/-- ascending links tell ascending neighbours -/
theorem nb_asc : ∀ {L : List (Int × Int)}, L.Pairwise lexlt → (∀ e ∈ L, e.1 < e.2) → ∀ a : Int, (nb L a).Pairwise (· < ·)
  | [], _, _, a => .nil
  | e :: L, h, r, a => by
    obtain ⟨h1, h2⟩ := List.pairwise_cons.mp h
    have ih := nb_asc h2 (fun x hx => r x (List.mem_cons_of_mem _ hx)) a
    rw [nb_cons]
    have re := r e List.mem_cons_self
    have later : ∀ b ∈ nb L a, ∀ c, (e.1 = a ∧ c = e.2 ∨ e.2 = a ∧ c = e.1) → c < b := fun b hb c hc => by
      rcases mem_nb hb with m | m
      · have l := h1 _ m
        have q := r _ (List.mem_cons_of_mem _ m)
        unfold lexlt at l
        simp only at l q
        rcases hc with ⟨u, v⟩ | ⟨u, v⟩ <;> omega
      · have l := h1 _ m
        have q := r _ (List.mem_cons_of_mem _ m)
        unfold lexlt at l
        simp only at l q
        rcases hc with ⟨u, v⟩ | ⟨u, v⟩ <;> omega
    by_cases c1 : e.1 = a
    · rw [if_pos c1]
      exact List.pairwise_cons.mpr ⟨fun b hb => later b hb e.2 (.inl ⟨c1, rfl⟩), ih⟩
    · rw [if_neg c1]
      by_cases c2 : e.2 = a
      · rw [if_pos c2]
        exact List.pairwise_cons.mpr ⟨fun b hb => later b hb e.1 (.inr ⟨c2, rfl⟩), ih⟩
      · rw [if_neg c2]
        exact ih
theorem lt_perm_uniq {l m : List Int} (p : l.Perm m) (h : l.Pairwise (· ≤ ·)) (h' : m.Pairwise (· < ·)) : l = m :=
  p.eq_of_pairwise (fun a b _ _ h1 h2 => Int.le_antisymm h1 h2) h (h'.imp fun x => Int.le_of_lt x)
def rowsL (n : Nat) (L : List (Int × Int)) : List (List Int) := (List.range n).map fun i => nb L ((i : Nat) : Int)
theorem rowsL_get {n i : Nat} {L : List (Int × Int)} (h : i < n) : (rowsL n L)[i]? = some (nb L ((i : Nat) : Int)) := by
  unfold rowsL
  rw [List.getElem?_map, List.getElem?_range h]; rfl
theorem rowsL_len (n : Nat) (L : List (Int × Int)) : (rowsL n L).length = n := by unfold rowsL; simp
theorem norm_cases (x y : Int) : norm (x, y) = (x, y) ∨ norm (x, y) = (y, x) := by
  unfold norm
  split
  · exact .inl rfl
  · exact .inr rfl
theorem nb_norm_iff {M L : List (Int × Int)} (h : (M.map norm).Perm L) {a b : Int} (ne : a ≠ b) (rL : ∀ e ∈ L, e.1 < e.2) : b ∈ nb M a ↔ b ∈ nb L a := by
  constructor
  · intro z
    have : norm (a, b) ∈ L ∨ norm (b, a) ∈ L := by
      rcases mem_nb z with m | m
      · exact .inl (h.mem_iff.mp (List.mem_map.mpr ⟨_, m, rfl⟩))
      · exact .inr (h.mem_iff.mp (List.mem_map.mpr ⟨_, m, rfl⟩))
    refine nb_mem ne ?_
    rcases this with m | m
    · rcases norm_cases a b with e | e <;> rw [e] at m
      · exact .inl m
      · exact .inr m
    · rcases norm_cases b a with e | e <;> rw [e] at m
      · exact .inr m
      · exact .inl m
  · intro z
    refine nb_mem ne ?_
    rcases mem_nb z with m | m
    · obtain ⟨⟨x, y⟩, hm, e⟩ := List.mem_map.mp (h.mem_iff.mpr m)
      rcases norm_cases x y with q | q <;> rw [q] at e <;> cases e
      · exact .inl hm
      · exact .inr hm
    · obtain ⟨⟨x, y⟩, hm, e⟩ := List.mem_map.mp (h.mem_iff.mpr m)
      rcases norm_cases x y with q | q <;> rw [q] at e <;> cases e
      · exact .inr hm
      · exact .inl hm
theorem nb_irr {M : List (Int × Int)} (h : ∀ e ∈ M, e.1 ≠ e.2) (a : Int) : a ∉ nb M a := fun z => by
  rcases mem_nb z with m | m <;> exact h _ m rfl
theorem rows_back {n : Nat} {L M : List (Int × Int)} {R R' : List (List Int)} (g : Good n 4 L) (s : L.Pairwise lexlt) (h : (M.map norm).Perm L) (hR : runP (emptyR n) (M.map some) = some R)
    (p : Paired (fun (a b : List Int) => a.Perm b ∧ a.Pairwise (· ≤ ·)) R' R) : R' = rowsL n L := by
  have rs := runs_of g h
  obtain ⟨R0, hR0, hl, hr⟩ := runs_nb rs M.length (Nat.le_refl _)
  rw [List.take_length] at hR0 hr
  rw [hR] at hR0
  cases hR0
  have sym : ∀ i e, M[i]? = some e → e.1 ≠ e.2 ∧ e.2 ∉ nb (M.take i) e.1 ∧ e.1 ∉ nb (M.take i) e.2 := fun i e he => by
    obtain ⟨_, _, _, _, ne, h1, _⟩ := rs i e he
    refine ⟨ne, h1, fun z => h1 ?_⟩
    exact nb_mem ne ((mem_nb z).symm)
  have irrM : ∀ e ∈ M, e.1 ≠ e.2 := fun e he => by
    obtain ⟨i, hi⟩ := List.getElem?_of_mem he
    exact (sym i e hi).1
  have rL : ∀ e ∈ L, e.1 < e.2 := fun e he => (g.rng e he).2.1
  have lenR : R'.length = R.length := paired_len p
  refine List.ext_getElem? fun i => ?_
  by_cases hi : i < n
  · rw [rowsL_get hi]
    have hi' : i < R'.length := by omega
    rw [List.getElem?_eq_getElem hi']
    congr 1
    obtain ⟨row, e1, pm, srt⟩ := paired_get p (List.getElem?_eq_getElem hi')
    have er : row = nb M ((i : Nat) : Int) := by
      have q := hr ((i : Nat) : Int) (by omega) (by omega)
      unfold rowOf at q
      rw [List.getD_eq_getElem?_getD] at q
      have e1' : R[((i : Nat) : Int).toNat]? = some row := by simpa using e1
      rw [e1'] at q
      exact q
    rw [er] at pm
    have asc := nb_asc s rL ((i : Nat) : Int)
    refine lt_perm_uniq (pm.trans ?_) srt asc
    refine (List.perm_ext_iff_of_nodup (nb_nodup sym) (asc.imp fun z => Int.ne_of_lt z)).mpr fun b => ?_
    by_cases hb : ((i : Nat) : Int) = b
    · subst hb
      exact ⟨fun z => absurd z (nb_irr irrM _), fun z => absurd z (nb_irr (fun e he => Int.ne_of_lt (rL e he)) _)⟩
    · exact nb_norm_iff h hb rL
  · rw [List.getElem?_eq_none (by omega), List.getElem?_eq_none (by rw [rowsL_len]; omega)]
section
variable {K : PySem.W.Frag} {C CI s dx : Addr} {x z : V} {H : Hp} {Q : VK} {E : XK}
/-- good modes, good links: the rows told -/
theorem net_goodR {ms : List Int} {zs : List V} {L M : List (Int × Int)} (hs : H s = none) (hd : H dx = none) (hx : SqX K H x (some (ms.map V.int))) (m0 : ms ≠ []) (ml : ms.length < 1000) (mb : ∀ m ∈ ms, 0 ≤ m ∧ m < 4) (hz : SqX K H z (some zs))
    (hp : Paired (LkIs K H ms.length) zs (M.map some)) (g : Good ms.length 4 L) (srt : L.Pairwise lexlt) (pm : (M.map norm).Perm L)
    (hQ : ∀ H', Same H H' → NetAt C H' s ms (rowsL ms.length L) L → Q .non H') : spNet K C CI [.ref s, x, z] (made H C s dx) Q E := by
  have S : Same H (made H C s dx) := made_same hs hd
  obtain ⟨R0, hR0, _⟩ := runs_nb (runs_of g pm) M.length (Nat.le_refl _)
  rw [List.take_length] at hR0
  have rs := runs_of g pm
  refine ⟨s, dx, x, z, _, rfl, upd_same, sqx_same hx S, fun e => (by cases e), fun e => ?_, fun xs e h0 => ?_⟩
  · exact absurd (List.map_eq_nil_iff.mp (Option.some.inj e)) m0
  · cases e
    refine ⟨ms.map some, kin_all K _ ms, fun j o' h1 _ h3 => ?_, fun _ => ⟨by rw [List.length_map]; exact ml, ms, rfl, _, sqx_same hz S, fun e => (by cases e), fun zs' e => ?_⟩⟩
    · rw [List.getElem?_map] at h1
      obtain ⟨m, hm, rfl⟩ := Option.map_eq_some_iff.mp h1
      obtain ⟨a, b⟩ := mb m (List.mem_of_getElem? hm)
      rw [bel4_of a b] at h3; cases h3
    · cases e
      refine ⟨M.map some, paired_mono hp fun _ _ k => k.same S, fun j e R h1 h2 h3 => ?_, fun R hR h4 H' R' ex pr net => ?_⟩
      · have b : BadL ms.length (M.map some) j := ⟨e, R, h1, h2, h3⟩
        rw [b.bad] at hR0; cases hR0
      · rw [edges_back g srt pm hR pr, rows_back g srt pm hR pr] at net
        exact hQ H' (ex_same hs hd ex) net
end
theorem fk_made {K : PySem.W.Frag} {x q : Str} {st : Stmt} {f : Addr} {fd : FuncData} {c a b : Str} (F : Fun K x q st f fd)
    (h : ∀ (kV doc pm : Value) (an : Option Addr) (cdv ct : Value) (t u v : Value), bindArgs (PySem.W.fnOf x q (defArgs st) (defBody st) (defScope st) .none kV doc pm an cdv ct) ⟨[t], [(b, v), (a, u)]⟩ = pure [(c, t), (a, u), (b, v)]) :
    KBn K fd [c, a, b] 1 [b, a] (fun us ws => us ++ ws.reverse) (fun vs zs => vs ++ zs.reverse) := by
  obtain ⟨oc, od, kV, doc, pm, an, cdv, ct, osl, rfl, lk, hcd⟩ := F.ex
  refine ⟨fun s us ws _ h0 h2 => ?_, fun {vs us zs ws} r1 r2 => ?_⟩
  · match us, ws, h0, h2 with
    | [t], [v, u], _, _ => exact .of_eq (h kV doc pm an cdv ct t u v)
  · refine r1.append ?_
    clear r1
    induction r2 with
    | nil => exact .nil
    | cons q _ ih =>
      rw [List.reverse_cons, List.reverse_cons]
      exact ih.append (.cons q .nil)
theorem rd_make {C : Addr} {sp : Sp} {dvs : List V} {E : XK} {t : TA} {σ : L2.St} {H : Hp} {Q : VK} (h : t σ H fun vs H1 => ∀ x dx, H1 x = none → H1 dx = none → dx ≠ x → sp (.ref x :: (vs ++ dvs)) (made H1 C x dx) (fun v H2 => v = .non ∧ Q (.ref x) H2) E) : tMake C sp dvs E t σ H Q := h
theorem rd_makeK {C : Addr} {n m : Nat} {sp : Sp} {gV : List V → List V → List V} {E : XK} {t tk : TA} {σ : L2.St} {H : Hp} {Q : VK} (h : t σ H fun vs H1 => tk σ H1 fun zs H2 => vs.length = n ∧ zs.length = m ∧ ∀ x dx, H2 x = none → H2 dx = none → dx ≠ x →
    sp (gV (.ref x :: vs) zs) (made H2 C x dx) (fun v H3 => v = .non ∧ Q (.ref x) H3) E) : tMakeK C n m sp gV E t tk σ H Q := h
end K03

namespace K03
open PySem PySem.Spec PyProof.Rows L2 KX
local macro_rules | `(tactic| walk_at "rd1") => `(tactic| first
  | with_reducible refine rd_seq ?_
  | with_reducible refine rd_for ?_
  | with_reducible refine rd_lc ?_
  | with_reducible refine rd_asg ?_
  | ((with_reducible refine' rd_var ?rdv ?_); (case rdv => exact rfl))
  | with_reducible refine rd_c ?_
  | with_reducible refine rd_op ?_
  | with_reducible refine rd_un ?_
  | with_reducible refine rd_cons ?_
  | with_reducible refine rd_nil ?_
  | with_reducible refine rd_call ?_
  | with_reducible refine rd_cb ?_
  | with_reducible refine rd_tB ?_
  | with_reducible refine rd_test ?_
  | with_reducible refine rd_bl ?_
  | with_reducible refine rd_rI0 ?_
  | with_reducible refine rd_eqI ?_
  | with_reducible refine rd_neI ?_
  | with_reducible refine rd_rU ?_
  | with_reducible refine rd_name ?_
  | with_reducible refine rd_ifs ?_
  | with_reducible refine rd_and ?_
  | with_reducible refine rd_or ?_
  | with_reducible refine rd_not ?_
  | with_reducible refine rd_yes ?_
  | with_reducible refine rd_andV ?_
  | with_reducible refine rd_orV ?_
  | with_reducible refine rd_notV ?_
  | with_reducible refine rd_if ?_
  | with_reducible refine rd_isN ?_
  | with_reducible refine rd_iT ?_
  | with_reducible refine rd_iF ?_
  | with_reducible refine rd_ret ?_
  | with_reducible refine rd_retN ?_
  | with_reducible refine rd_drop ?_
  | with_reducible refine rd_next ?_
  | with_reducible refine rd_cont ?_
  | with_reducible refine rd_brk ?_
  | with_reducible refine rd_nx ?_
  | with_reducible refine rd_rt ?_
  | with_reducible refine rd_ct ?_
  | with_reducible refine rd_bk ?_
  | with_reducible refine rd_par ?_
  | with_reducible refine rd_par3 ?_
  | with_reducible refine rd_par2 ?_
  | with_reducible refine rd_par33 ?_
  | with_reducible refine rd_gcons ?_
  | with_reducible refine rd_gnil ?_
  | with_reducible refine rd_sub ?_
  | with_reducible refine rd_tup ?_
  | with_reducible refine rd_lst ?_
  | ((with_reducible refine rd_tupT ?hl ?_); (case hl => exact Nat.le_of_ble_eq_true rfl))
  | ((with_reducible refine rd_lstT ?hl ?_); (case hl => exact Nat.le_of_ble_eq_true rfl))
  | with_reducible refine rd_bm ?_
  | with_reducible refine rd_bm0 ?_
  | with_reducible refine rd_sl ?_
  | with_reducible refine rd_noP ?_
  | with_reducible refine rd_part ?_
  | with_reducible refine rd_int ?_
  | with_reducible refine rd_int1 ?_
  | with_reducible refine rd_fld ?_
  | with_reducible refine rd_then ?_
  | with_reducible refine rd_raise ?_
  | with_reducible refine rd_one ?_
  | with_reducible refine rd_sfld ?_
  | with_reducible refine rd_ilist ?_
  | with_reducible refine rd_itup ?_
  | with_reducible refine rd_rng1 ?_
  | with_reducible refine rd_enum ?_
  | with_reducible refine rd_enumT ?_)
local macro_rules | `(tactic| walk_at "rd") => `(tactic| repeat (walk_at "rd1"))
/-! ### what sites see -/
def sortI (l : List Int) : List Int := l.mergeSort fun a b => decide (a ≤ b)
theorem sortI_perm (l : List Int) : (sortI l).Perm l := List.mergeSort_perm _ _
theorem sortI_srt (l : List Int) : (sortI l).Pairwise (· ≤ ·) := by
  have h := List.pairwise_mergeSort (le := fun a b : Int => decide (a ≤ b)) (fun a b c h1 h2 => by simp at *; omega) (fun a b => by simp; omega) l
  exact h.imp fun z => by simpa using z
theorem srt_uniq {l l' : List Int} (p : l.Perm l') (h : l.Pairwise (· ≤ ·)) (h' : l'.Pairwise (· ≤ ·)) : l = l' :=
  p.eq_of_pairwise (fun a b _ _ h1 h2 => Int.le_antisymm h1 h2) h h'
theorem sortI_of {l m : List Int} (p : m.Perm l) (h : m.Pairwise (· ≤ ·)) : m = sortI l := srt_uniq (p.trans (sortI_perm l).symm) h (sortI_srt l)
theorem sortI_congr {l m : List Int} (p : l.Perm m) : sortI l = sortI m := sortI_of ((sortI_perm l).trans p) (sortI_srt l)
def modeAt (ms : List Int) (i : Int) : Int := ms.getD i.toNat 0
theorem modeAt_get {ms : List Int} {i : Int} (h0 : 0 ≤ i) (h1 : i < ms.length) : atI (ms.map V.int) i = some (.int (modeAt ms i)) := by
  obtain ⟨n, rfl⟩ := Int.eq_ofNat_of_zero_le h0
  have hn : n < ms.length := by omega
  refine atI_nat ?_
  unfold modeAt
  rw [List.getElem?_map, List.getElem?_eq_getElem hn, List.getD_eq_getElem?_getD]
  have : ((n : Nat) : Int).toNat = n := by omega
  rw [this, List.getElem?_eq_getElem hn]; rfl
theorem modeAt_mem {ms : List Int} {i : Int} (h0 : 0 ≤ i) (h1 : i < ms.length) : modeAt ms i ∈ ms := by
  unfold modeAt
  rw [List.getD_eq_getElem?_getD, List.getElem?_eq_getElem (by omega)]
  exact List.getElem_mem (by omega)
def viewOf (ms : List Int) (L : List (Int × Int)) (i : Int) : Int × List Int := (modeAt ms i, sortI ((nb L i).map (modeAt ms)))
def ViewAt (H : Hp) (v : Addr) (w : Int × List Int) : Prop := ∃ r, H v = some (.tup [.int w.1, .ref r]) ∧ H r = some (.tup (w.2.map V.int))
theorem ViewAt.same {H H' : Hp} {v : Addr} {w : Int × List Int} (h : ViewAt H v w) (s : Same H H') : ViewAt H' v w := by
  obtain ⟨r, h1, h2⟩ := h
  exact ⟨r, s _ _ h1, s _ _ h2⟩
def viewsOf (ms : List Int) (L : List (Int × Int)) : List (Int × List Int) := (List.range ms.length).map fun i => viewOf ms L ((i : Nat) : Int)
theorem nb_rng {n d : Nat} {L : List (Int × Int)} (g : Good n d L) {a b : Int} (h : b ∈ nb L a) : 0 ≤ b ∧ b < n := by
  rcases mem_nb h with m | m <;> (have := g.rng _ m; simp only at this; omega)
theorem nb_deg {n d : Nat} {L : List (Int × Int)} (g : Good n d L) (a : Int) : (nb L a).length ≤ d := by rw [nb_len]; exact g.deg a
/-- the row of a site -/
theorem NetAt.row {C : Addr} {H : Hp} {p : Addr} {ms : List Int} {L : List (Int × Int)} (h : NetAt C H p ms (rowsL ms.length L) L) {i : Int} (h0 : 0 ≤ i) (h1 : i < ms.length) :
    ∃ (dx pm pn pl : Addr) (qs : List Addr) (q : Addr), H p = some (.ins C dx (putF "links" (.ref pl) (putF "_near" (.ref pn) (putF "modes" (.ref pm) [])))) ∧ Tup H pm (ms.map V.int) ∧ Tup H pn (qs.map V.ref) ∧ atI (qs.map V.ref) i = some (.ref q) ∧ RowT H q (nb L i) := by
  obtain ⟨dx, pm, pn, pl, qs, ps, hp, hm, hn, hqs, _, _⟩ := h.ob
  obtain ⟨n, rfl⟩ := Int.eq_ofNat_of_zero_le h0
  have hn' : n < ms.length := by omega
  have lq : qs.length = ms.length := by rw [paired_len hqs, rowsL_len]
  have hq : qs[n]? = some qs[n] := List.getElem?_eq_getElem (by omega)
  obtain ⟨row, e, hrow⟩ := paired_get hqs hq
  rw [rowsL_get hn'] at e
  cases e
  exact ⟨dx, pm, pn, pl, qs, qs[n], hp, hm, Tup.of hn, atI_nat (by rw [List.getElem?_map, hq]; rfl), hrow⟩
theorem look_none {a b c : V} {m : Str} (h1 : ¬ m = "links") (h2 : ¬ m = "_near") (h3 : ¬ m = "modes") : (putF "links" a (putF "_near" b (putF "modes" c []))).lookup m = none := by
  rw [lookup_putF, if_neg h1, lookup_putF, if_neg h2, lookup_putF, if_neg h3]
  rfl
theorem rd_meth {C : Addr} {m : Str} {sp : L2.Sp} {dvs : List V} {E : XK} {ta : TE} {t : TA} {σ : L2.St} {H : Hp} {Q : VK} (h : ta σ H fun x H1 => ∃ a dx fs, x = .ref a ∧ H1 a = some (.ins C dx fs) ∧ fs.lookup m = none ∧ t σ H1 fun vs H2 => sp (x :: (vs ++ dvs)) H2 Q E) : tMeth C m sp dvs E ta t σ H Q := h
theorem rd_netm {C : Addr} {m : Str} {Z : Prop} {H : Hp} {p : Addr} {ms : List Int} {R : List (List Int)} {L : List (Int × Int)} (hn : NetAt C H p ms R L) (h1 : ¬ m = "links") (h2 : ¬ m = "_near") (h3 : ¬ m = "modes")
    (h : Z) : ∃ a dx fs, V.ref p = .ref a ∧ H a = some (.ins C dx fs) ∧ fs.lookup m = none ∧ Z := by
  obtain ⟨dx, pm, pn, pl, qs, ps, hp, _⟩ := hn.ob
  exact ⟨p, dx, _, rfl, hp, look_none h1 h2 h3, h⟩
def spNear (K : PySem.W.Frag) (C CQ : Addr) : L2.Sp := fun vs H Q E => ∃ (p : Addr) (x : V) (ms : List Int) (L : List (Int × Int)) (o : Option Int), vs = [.ref p, x] ∧ NetAt C H p ms (rowsL ms.length L) L ∧ Kin K H x o ∧
  (belB o ms.length = false → ErrAt CQ E H 0) ∧ (belB o ms.length = true → ∃ i, x = .int i ∧ ∀ q, RowT H q (nb L i) → Q (.ref q) H)
def spView (K : PySem.W.Frag) (C CQ : Addr) : L2.Sp := fun vs H Q E => ∃ (p : Addr) (x : V) (ms : List Int) (L : List (Int × Int)) (o : Option Int), vs = [.ref p, x] ∧ NetAt C H p ms (rowsL ms.length L) L ∧ Good ms.length 4 L ∧ (∀ m ∈ ms, 0 ≤ m ∧ m < 4) ∧ Kin K H x o ∧
  (belB o ms.length = false → ErrAt CQ E H 0) ∧ (belB o ms.length = true → ∃ i, x = .int i ∧ ∀ H' v, Same H H' → ViewAt H' v (viewOf ms L i) → Q (.ref v) H')
def spSViews (K : PySem.W.Frag) (C : Addr) : L2.Sp := fun vs H Q E => ∃ (p : Addr) (ms : List Int) (L : List (Int × Int)), vs = [.ref p] ∧ NetAt C H p ms (rowsL ms.length L) L ∧ Good ms.length 4 L ∧ (∀ m ∈ ms, 0 ≤ m ∧ m < 4) ∧ ms.length < 1000 ∧
  ∀ H' t vs, Same H H' → H' t = some (.tup (vs.map V.ref)) → Paired (ViewAt H') vs (viewsOf ms L) → Q (.ref t) H'
theorem belB_iff {i : Int} {n : Nat} : belB (some i) n = true ↔ 0 ≤ i ∧ i < n := by
  show (decide (0 ≤ i) && decide (i < (n : Int))) = true ↔ _
  simp
theorem kin_bel {K : PySem.W.Frag} {H : Hp} {x : V} {o : Option Int} {n : Nat} (k : Kin K H x o) (h : belB o n = true) : ∃ i, x = .int i ∧ 0 ≤ i ∧ i < n := by
  cases k with
  | int i => exact ⟨i, rfl, belB_iff.mp h⟩
  | oth t h1 h2 h3 => cases h
section
variable {P : Program} {w : World} {K : PySem.W.Frag} {mg : Str → Option Value} {base : Heap} (T : TX K mg)
end
end K03

namespace K03
open PySem PySem.Spec PyProof.Rows L2 KX
local macro_rules | `(tactic| walk_at "rd1") => `(tactic| first
  | with_reducible refine rd_seq ?_
  | with_reducible refine rd_for ?_
  | with_reducible refine rd_lc ?_
  | with_reducible refine rd_asg ?_
  | ((with_reducible refine' rd_var ?rdv ?_); (case rdv => exact rfl))
  | with_reducible refine rd_c ?_
  | with_reducible refine rd_op ?_
  | with_reducible refine rd_un ?_
  | with_reducible refine rd_cons ?_
  | with_reducible refine rd_nil ?_
  | with_reducible refine rd_call ?_
  | with_reducible refine rd_cb ?_
  | with_reducible refine rd_tB ?_
  | with_reducible refine rd_test ?_
  | with_reducible refine rd_bl ?_
  | with_reducible refine rd_rI0 ?_
  | with_reducible refine rd_eqI ?_
  | with_reducible refine rd_neI ?_
  | with_reducible refine rd_rU ?_
  | with_reducible refine rd_name ?_
  | with_reducible refine rd_ifs ?_
  | with_reducible refine rd_and ?_
  | with_reducible refine rd_or ?_
  | with_reducible refine rd_not ?_
  | with_reducible refine rd_yes ?_
  | with_reducible refine rd_andV ?_
  | with_reducible refine rd_orV ?_
  | with_reducible refine rd_notV ?_
  | with_reducible refine rd_if ?_
  | with_reducible refine rd_isN ?_
  | with_reducible refine rd_iT ?_
  | with_reducible refine rd_iF ?_
  | with_reducible refine rd_ret ?_
  | with_reducible refine rd_retN ?_
  | with_reducible refine rd_drop ?_
  | with_reducible refine rd_next ?_
  | with_reducible refine rd_cont ?_
  | with_reducible refine rd_brk ?_
  | with_reducible refine rd_nx ?_
  | with_reducible refine rd_rt ?_
  | with_reducible refine rd_ct ?_
  | with_reducible refine rd_bk ?_
  | with_reducible refine rd_par ?_
  | with_reducible refine rd_par3 ?_
  | with_reducible refine rd_par2 ?_
  | with_reducible refine rd_par33 ?_
  | with_reducible refine rd_gcons ?_
  | with_reducible refine rd_gnil ?_
  | with_reducible refine rd_sub ?_
  | with_reducible refine rd_tup ?_
  | with_reducible refine rd_lst ?_
  | ((with_reducible refine rd_tupT ?hl ?_); (case hl => exact Nat.le_of_ble_eq_true rfl))
  | ((with_reducible refine rd_lstT ?hl ?_); (case hl => exact Nat.le_of_ble_eq_true rfl))
  | with_reducible refine rd_bm ?_
  | with_reducible refine rd_bm0 ?_
  | with_reducible refine rd_sl ?_
  | with_reducible refine rd_noP ?_
  | with_reducible refine rd_part ?_
  | with_reducible refine rd_int ?_
  | with_reducible refine rd_int1 ?_
  | with_reducible refine rd_fld ?_
  | with_reducible refine rd_then ?_
  | with_reducible refine rd_raise ?_
  | with_reducible refine rd_one ?_
  | with_reducible refine rd_sfld ?_
  | with_reducible refine rd_ilist ?_
  | with_reducible refine rd_itup ?_
  | with_reducible refine rd_rng1 ?_
  | with_reducible refine rd_enum ?_
  | with_reducible refine rd_enumT ?_)
local macro_rules | `(tactic| walk_at "rd") => `(tactic| repeat (walk_at "rd1"))
/-- who is linked to a: those told second, then those told first -/
def nbF (L : List (Int × Int)) (a : Int) : List Int := (L.filterMap fun e => if e.1 = a then some e.2 else none) ++ L.filterMap fun e => if e.2 = a then some e.1 else none
theorem nbF_perm : ∀ {L : List (Int × Int)}, (∀ e ∈ L, e.1 ≠ e.2) → ∀ a, (nbF L a).Perm (nb L a)
  | [], _, a => List.Perm.refl _
  | e :: L, h, a => by
    have ih := nbF_perm (fun x hx => h x (List.mem_cons_of_mem _ hx)) a
    have ne := h e List.mem_cons_self
    rw [nb_cons]
    unfold nbF at ih ⊢
    rw [List.filterMap_cons, List.filterMap_cons]
    by_cases c1 : e.1 = a
    · have c2 : ¬ e.2 = a := fun z => ne (by rw [c1, z])
      rw [if_pos c1, if_neg c2, if_pos c1]
      exact ih.cons e.2
    · rw [if_neg c1, if_neg c1]
      by_cases c2 : e.2 = a
      · rw [if_pos c2, if_pos c2]
        exact List.perm_middle.trans (ih.cons e.1)
      · rw [if_neg c2, if_neg c2]
        exact ih
theorem fm_map {α : Type} (f : α → Option Int) (g : Int → Int) (l : List α) : l.filterMap (fun e => (f e).map fun b => V.int (g b)) = ((l.filterMap f).map g).map V.int := by
  induction l with
  | nil => rfl
  | cons e l ih =>
    rw [List.filterMap_cons, List.filterMap_cons]
    cases f e with
    | none => exact ih
    | some b => simp [ih]
def spLViews : L2.Sp := fun vs H Q _ => ∃ (a l : Addr) (ms : List Int) (ps : List Addr) (L : List (Int × Int)), vs = [.ref a, .ref l] ∧ H a = some (.lst (ms.map V.int)) ∧ H l = some (.lst (ps.map V.ref)) ∧ Paired (PairAt H) ps L ∧ Good ms.length 4 L ∧ ms.length < 1000 ∧ L.length < 10000 ∧
  ∀ H' t vs, Same H H' → H t = none → H' t = some (.lst (vs.map V.ref)) → Paired (ViewAt H') vs (viewsOf ms L) → Q (.ref t) H'
section
variable {P : Program} {w : World} {K : PySem.W.Frag} {mg : Str → Option Value} {base : Heap} (T : TX K mg)
theorem G__law_views : FnOk P w K mg base CX0 1 T.f__law_views T.d__law_views ["modes", "links"] spLViews := by
  refine T.F__law_views.ok sc__law_views (fun vs H Q E h => ?_) fun cdv A outer s H vs Q E hr h => ⟨_, (pss_cons (ps_set (i := 2) sc__law_views.nd rfl (.inl rfl) (pe_lst pa_nil)) (pss_cons (ps_for PassesOwn.never rfl (pi_enumK (K := K) (by rfl) T.n_enumerate (by exact (pa_cons (pv 0) pa_nil))) (pg_tupK (K := K) (n := 2) (by rfl) (pgs_cons (pg_name (i := 3) sc__law_views.nd rfl (.inr rfl)) (pgs_cons (pg_name (i := 4) sc__law_views.nd rfl (.inl rfl)) pgs_nil))) (pss_cons (ps_set (i := 5) sc__law_views.nd rfl (.inl rfl) (pe_op op_cat (by exact (pe_lc (own := [("one", 6), ("other", 7)]) (by rfl) sc__law_views.nd (pi_listK (K := K) (pv 1)) (blkOk_by (own := [("one", 6), ("other", 7)]) (N := N__law_views) (sc := defScope s__law_views) (by decide +kernel)) (fun _ _ _ _ _ => (pg_tupK (K := K) (n := 2) (by rfl) (pgs_cons (pg_name (i := 6) sc__law_views.nd rfl (.inl rfl)) (pgs_cons (pg_name (i := 7) sc__law_views.nd rfl (.inl rfl)) pgs_nil)))) (fun _ _ _ _ _ => pts_one (pt_cmpR op_eq (pv 6) (pv 3) (nomark _))) (fun _ _ _ _ _ => (pe_ix (ix_listK (K := K)) (pv 0) (pv 7) (fun _ _ => rfl))) )) (by exact (pe_lc (own := [("one", 6), ("other", 7)]) (by rfl) sc__law_views.nd (pi_listK (K := K) (pv 1)) (blkOk_by (own := [("one", 6), ("other", 7)]) (N := N__law_views) (sc := defScope s__law_views) (by decide +kernel)) (fun _ _ _ _ _ => (pg_tupK (K := K) (n := 2) (by rfl) (pgs_cons (pg_name (i := 6) sc__law_views.nd rfl (.inl rfl)) (pgs_cons (pg_name (i := 7) sc__law_views.nd rfl (.inl rfl)) pgs_nil)))) (fun _ _ _ _ _ => pts_one (pt_cmpR op_eq (pv 7) (pv 3) (nomark _))) (fun _ _ _ _ _ => (pe_ix (ix_listK (K := K)) (pv 0) (pv 6) (fun _ _ => rfl))) )))) (pss_one (ps_expr (pe_bmK (K := K) PySem.F.slot_list_append PySem.F.type_list_append mt_append (pv 2) (by exact (pa_cons (pe_tup (pa_cons (pv 4) (pa_cons (pe_tupleK (K := K) (by rfl) T.n_tuple (pe_callB (cr_sortedK (K := K)) (by rfl) T.n_sorted (by decide +kernel) (by exact (pa_cons (pv 5) pa_nil)))) pa_nil))) pa_nil))))))) (pss_one (ps_ret (pv 2))))), ?_⟩
  · obtain ⟨a, l, ms, ps, L, rfl, _⟩ := h
    rfl
  · obtain ⟨a, l, ms, ps, L, rfl, ha, hl, pL, g, ml, lL, hQ⟩ := h
    walk_at "rd"
    intro f H1 f0 S1 hf
    walk_at "rd"
    have ha1 := S1 _ _ ha
    have hl1 := S1 _ _ hl
    have pL1 : Paired (PairAt H1) ps L := paired_mono pL fun _ _ z => S1 _ _ z
    have ne : ∀ e ∈ L, e.1 ≠ e.2 := fun e he => by have := g.rng e he; omega
    have ff : H f = none := f0
    refine ⟨a, _, rfl, SqL.of ha1, for_enumL (xs := ms.map V.int) (fun i σ H' => (∃ o3 o4 o5 o6 o7, σ = [some (.ref a), some (.ref l), some (.ref f), o3, o4, o5, o6, o7]) ∧ Same H H' ∧ ∃ vs : List Addr, H' f = some (.lst (vs.map V.ref)) ∧ Paired (ViewAt H') vs ((viewsOf ms L).take i))
      ⟨⟨_, _, _, _, _, rfl⟩, S1, [], hf, .nil⟩ (fun i σ H' p => SqL.of (p.2.1 _ _ ha)) (fun i y σ H' t H2 hy p ht S2 et => ?_) (fun σ H' p => ?_)⟩
    · obtain ⟨⟨o3, o4, o5, o6, o7, rfl⟩, S, vs, hvs, hpv⟩ := p
      rw [List.getElem?_map] at hy
      obtain ⟨m, hm, rfl⟩ := Option.map_eq_some_iff.mp hy
      have hi : i < ms.length := (List.getElem?_eq_some_iff.mp hm).1
      have em : modeAt ms ((i : Nat) : Int) = m := by
        unfold modeAt
        have : ((i : Nat) : Int).toNat = i := by omega
        rw [this, List.getD_eq_getElem?_getD, hm]; rfl
      refine rd_gtup (Tup.of et) rfl ?_
      have Sa := S.trans S2
      have hl2 := Sa _ _ hl
      have ha2 := Sa _ _ ha
      have hvs2 := S2 _ _ hvs
      have pL2 : Paired (PairAt H2) ps L := paired_mono pL fun _ _ z => Sa _ _ z
      have hpv2 : Paired (ViewAt H2) vs ((viewsOf ms L).take i) := paired_mono hpv fun _ _ z => z.same S2
      have lps := paired_len pL
      walk_at "rd"
      refine ⟨l, rfl, ⟨_, SqL.of hl2⟩, fun D hD => ?_⟩
      refine lcf_list (xs := ps.map V.ref) L (fun e => (if e.1 = ((i : Nat) : Int) then some e.2 else none).map fun b => V.int (modeAt ms b)) hl2 (by rw [List.length_map, lps]) (by rw [List.length_map, lps]; omega) hD (fun j x e H3 hx he S3 R N hR hN => ?_) (fun H3 S3 hD3 => ?_)
      · rw [List.getElem?_map] at hx
        obtain ⟨t', ht', rfl⟩ := Option.map_eq_some_iff.mp hx
        obtain ⟨e', he', hte⟩ := paired_get pL2 ht'
        rw [he] at he'
        cases he'
        obtain ⟨r0, r1, r2⟩ := g.rng e (List.mem_of_getElem? he)
        have hte3 : H3 t' = some (.tup [.int e.1, .int e.2]) := S3 _ _ hte
        refine rd_gtup (Tup.of hte3) rfl ?_
        walk_at "rd"
        refine ⟨rfl, ?_⟩
        walk_at "rd"
        by_cases c : e.1 = ((i : Nat) : Int)
        · refine iteT' (decide_eq_true c) ?_
          walk_at "rd"
          refine rd_ixL (S3 _ _ ha2) (modeAt_get (by omega) r2) ?_
          exact hR _ H3 (by rw [if_pos c]; rfl) (Same.refl _)
        · refine iteF' (decide_eq_false c) ?_
          exact hN H3 (by rw [if_neg c]; rfl) (Same.refl _)
      · rw [fm_map] at hD3
        walk_at "rd"
        refine ⟨l, rfl, ⟨_, SqL.of (S3 _ _ hl2)⟩, fun D2 hD2 => ?_⟩
        refine lcf_list (xs := ps.map V.ref) L (fun e => (if e.2 = ((i : Nat) : Int) then some e.1 else none).map fun b => V.int (modeAt ms b)) (S3 _ _ hl2) (by rw [List.length_map, lps]) (by rw [List.length_map, lps]; omega) hD2 (fun j x e H4 hx he S4 R N hR hN => ?_) (fun H4 S4 hD4 => ?_)
        · rw [List.getElem?_map] at hx
          obtain ⟨t', ht', rfl⟩ := Option.map_eq_some_iff.mp hx
          obtain ⟨e', he', hte⟩ := paired_get pL2 ht'
          rw [he] at he'
          cases he'
          obtain ⟨r0, r1, r2⟩ := g.rng e (List.mem_of_getElem? he)
          have hte4 : H4 t' = some (.tup [.int e.1, .int e.2]) := S4 _ _ (S3 _ _ hte)
          refine rd_gtup (Tup.of hte4) rfl ?_
          walk_at "rd"
          refine ⟨rfl, ?_⟩
          walk_at "rd"
          by_cases c : e.2 = ((i : Nat) : Int)
          · refine iteT' (decide_eq_true c) ?_
            walk_at "rd"
            refine rd_ixL (S4 _ _ (S3 _ _ ha2)) (modeAt_get r0 (by omega)) ?_
            exact hR _ H4 (by rw [if_pos c]; rfl) (Same.refl _)
          · refine iteF' (decide_eq_false c) ?_
            exact hN H4 (by rw [if_neg c]; rfl) (Same.refl _)
        · rw [fm_map] at hD4
          have dg := nb_deg g ((i : Nat) : Int)
          have pm := nbF_perm ne ((i : Nat) : Int)
          have ln := pm.length_eq
          unfold nbF at ln
          rw [List.length_append] at ln
          refine rd_cat (S4 _ _ hD3) hD4 (by simp only [List.length_map]; omega) ?_
          intro r H5 r0 S5 hr5
          have er : (L.filterMap fun e => if e.1 = ((i : Nat) : Int) then some e.2 else none).map (modeAt ms) ++ (L.filterMap fun e => if e.2 = ((i : Nat) : Int) then some e.1 else none).map (modeAt ms) = (nbF L ((i : Nat) : Int)).map (modeAt ms) := by
            unfold nbF; rw [List.map_append]
          rw [← List.map_append, er] at hr5
          have S25 := ((S3.trans S4).trans S5)
          walk_at "rd"
          refine rd_ty (S25 _ _ hvs2) ?_
          walk_at "rd"
          refine rd_sorted hr5 (by rw [List.length_map, pm.length_eq]; omega) fun ns' pn sn => ?_
          intro u H6 u0 S6 hu
          walk_at "rd"
          refine rd_tupL hu ?_
          intro u2 H7 u20 S7 hu2
          walk_at "rd"
          intro v H8 v0 S8 hv
          have S28 := ((S25.trans S6).trans S7).trans S8
          have hvs8 := S28 _ _ hvs2
          have lv := paired_len hpv
          rw [List.length_take] at lv
          walk_at "rd"
          refine rd_app hvs8 (by rw [List.length_map]; omega) ?_
          walk_at "rd"
          have en : ns' = (viewOf ms L ((i : Nat) : Int)).2 := sortI_of (pn.trans (pm.map _)) sn
          have hvw : ViewAt H8 v (viewOf ms L ((i : Nat) : Int)) := ⟨u2, by rw [hv]; show _ = some (HO.tup [V.int (modeAt ms ((i : Nat) : Int)), V.ref u2]); rw [em], by rw [← en]; exact S8 _ _ hu2⟩
          refine ⟨⟨_, _, _, _, _, rfl⟩, same_put (Sa.trans S28) ff, vs ++ [v], by rw [upd_same]; simp, ?_⟩
          have e : (viewsOf ms L)[i]? = some (viewOf ms L ((i : Nat) : Int)) := by
            unfold viewsOf
            rw [List.getElem?_map, List.getElem?_range hi]; rfl
          rw [List.take_succ, e]
          have up : ∀ {a : Addr} {w : Int × List Int}, ViewAt H8 a w → ViewAt (upd H8 f (.lst (vs.map V.ref ++ [V.ref v]))) a w := fun ⟨r, h1, h2⟩ =>
            ⟨r, by rw [upd_ne (fun z => by rw [z, hvs8] at h1; cases h1)]; exact h1, by rw [upd_ne (fun z => by rw [z, hvs8] at h2; cases h2)]; exact h2⟩
          have gen : ∀ {l : List Addr} {m : List (Int × List Int)}, Paired (ViewAt H2) l m → Paired (ViewAt (upd H8 f (.lst (vs.map V.ref ++ [V.ref v])))) (l ++ [v]) (m ++ [viewOf ms L ((i : Nat) : Int)]) := fun p => by
            induction p with
            | nil => exact .cons (up hvw) .nil
            | cons a _ ih => exact .cons (up (a.same S28)) ih
          exact gen hpv2
    · obtain ⟨⟨o3, o4, o5, o6, o7, rfl⟩, S, vs, hvs, hpv⟩ := p
      have e : (viewsOf ms L).take (ms.map V.int).length = viewsOf ms L := List.take_of_length_le (by unfold viewsOf; simp)
      rw [e] at hpv
      walk_at "rd"
      exact hQ H' f vs S ff hvs hpv
end
end K03

namespace K03
open PySem PySem.Spec PyProof.Rows L2 KX
/-! ### what stays -/
structure Kp (p q : Addr) (H H' : Hp) : Prop where
  nl : ∀ a o, H a = some o → (∀ xs, o ≠ .lst xs) → (∀ ps, o ≠ .tbl ps) → H' a = some o
  ls : ∀ a xs, a ≠ p → a ≠ q → H a = some (.lst xs) → H' a = some (.lst xs)
theorem Kp.refl {p q : Addr} {H : Hp} : Kp p q H H := ⟨fun _ _ h _ _ => h, fun _ _ _ _ h => h⟩
theorem Kp.trans {p q : Addr} {H H1 H2 : Hp} (a : Kp p q H H1) (b : Kp p q H1 H2) : Kp p q H H2 :=
  ⟨fun c o h n t => b.nl c o (a.nl c o h n t) n t, fun c xs h1 h2 h => b.ls c xs h1 h2 (a.ls c xs h1 h2 h)⟩
theorem Kp.same {p q : Addr} {H H' : Hp} (s : Same H H') : Kp p q H H' := ⟨fun a o h _ _ => s a o h, fun a xs _ _ h => s a _ h⟩
theorem Kp.fix {p q : Addr} {H H' : Hp} (d : Deal H p q) (f : Fix p q H H') : Kp p q H H' := ⟨fun a o h n _ => f.keep d h n, fun a xs h1 h2 h => f a _ h1 h2 h⟩
theorem Kp.tup {p q : Addr} {H H' : Hp} {a : Addr} {xs : List V} (k : Kp p q H H') (h : H a = some (.tup xs)) : H' a = some (.tup xs) :=
  k.nl _ _ h (fun xs e => nomatch e) (fun ps e => nomatch e)
theorem Kp.tupR {p q : Addr} {H H' : Hp} {a : Addr} {xs : List V} (k : Kp p q H H') (h : Tup H a xs) : Tup H' a xs := by
  rcases h with h | ⟨o, h⟩
  · exact .inl (k.tup h)
  · exact .inr ⟨o, k.nl _ _ h (fun xs e => nomatch e) (fun ps e => nomatch e)⟩
theorem Kp.pair {p q : Addr} {H H' : Hp} {a : Addr} {e : Int × Int} (k : Kp p q H H') (h : PairAt H a e) : PairAt H' a e := k.tup h
theorem Kp.pairs {p q : Addr} {H H' : Hp} {ps : List Addr} {L : List (Int × Int)} (k : Kp p q H H') (h : Paired (PairAt H) ps L) : Paired (PairAt H') ps L := paired_mono h fun _ _ z => k.pair z
theorem Kp.net {p q : Addr} {H H' : Hp} {C n : Addr} {ms : List Int} {R : List (List Int)} {L : List (Int × Int)} (k : Kp p q H H') (h : NetAt C H n ms R L) : NetAt C H' n ms R L := by
  obtain ⟨dx, pm, pn, pl, qs, ps, h1, h2, h3, h4, h5, h6⟩ := h.ob
  exact ⟨dx, pm, pn, pl, qs, ps, k.nl _ _ h1 (fun xs e => nomatch e) (fun ps e => nomatch e), k.tupR h2, k.tup h3, paired_mono h4 fun _ _ z => k.tupR z, k.tup h5, k.pairs h6⟩
theorem Kp.put {p q a : Addr} {H0 H4 H : Hp} {o : HO} (k : Kp p q H0 H4) (n : H4 a = none) (k' : Kp p q H0 H) : Kp p q H0 (L2.upd H a o) :=
  ⟨fun b u h h1 h2 => by
    rw [upd_ne (fun z => by have := k.nl b u h h1 h2; rw [z, n] at this; cases this)]
    exact k'.nl b u h h1 h2, fun b xs h1 h2 h => by
    rw [upd_ne (fun z => by have := k.ls b xs h1 h2 h; rw [z, n] at this; cases this)]
    exact k'.ls b xs h1 h2 h⟩
section
variable {X : Cx} {K : PySem.W.Frag} {C f : Addr} {fd : FuncData} {ps : List Str} {sp : L2.Sp} {n : Nat}
theorem op_ownEqK (O : OwnC K C f) (F : FnOk X.prog X.w K X.mg X.base CX0 n f fd ps sp) (hb : Binds K fd ps []) (hr : Room n X.A) (hK : X.K = K := by rfl) : OpR X (compareOp .Eq) (rOwnC K C sp false) := by subst hK; exact op_ownEq O F hb hr
theorem op_ownNeK (O : OwnC K C f) (F : FnOk X.prog X.w K X.mg X.base CX0 n f fd ps sp) (hb : Binds K fd ps []) (hr : Room (n + 1) X.A) (hK : X.K = K := by rfl) : OpR X (compareOp .NotEq) (rOwnC K C sp true) := by subst hK; exact op_ownNe O F hb hr
end
theorem rd_callK {m : Nat} {sp : L2.Sp} {gV : List V → List V → List V} {E : XK} {tk : TA} {σ : L2.St} {H : Hp} {Q : VK} (h : tk σ H fun zs H2 => zs.length = m ∧ sp (gV [] zs) H2 Q E) : KX.tCallK m sp gV E tk σ H Q := h
theorem nf_self {K : PySem.W.Frag} {C : Addr} : PySem.W.notFirst K C (.ref C) = true := by
  unfold PySem.W.notFirst
  simp
theorem rd_ownN {K : PySem.W.Frag} {C s1 s2 : Addr} {neg : Bool} {ms ms' : List Int} {R R' : List (List Int)} {L L' : List (Int × Int)} {H : Hp} {Q : VK} (I : IsCls K C) (h1 : NetAt C H s1 ms R L) (h2 : NetAt C H s2 ms' R' L') (a1 : ms.length < 1000) (b1 : L.length < 1000) (a2 : ms'.length < 1000) (b2 : L'.length < 1000)
    (q : Q (.bl (neg != (decide (ms = ms') && decide (L = L')))) H) : rOwnC K C (spEqN K C) neg (.ref s1) (.ref s2) H Q := by
  obtain ⟨dx, pm, pn, pl, qs, ps, hN, _⟩ := h1.ob
  obtain ⟨dx', pm', pn', pl', qs', ps', hN', _⟩ := h2.ob
  exact ⟨s1, dx, _, .ref C, rfl, hN, I.ty hN', nf_self, s1, .ref s2, ms, R, L, rfl, h1, a1, b1, .inr ⟨s2, ms', R', L', rfl, h2, a2, b2, _, rfl, q⟩⟩
theorem rd_ownT {K : PySem.W.Frag} {C s1 t : Addr} {neg : Bool} {ms : List Int} {R : List (List Int)} {L : List (Int × Int)} {xs : List V} {H : Hp} {Q : VK} (h1 : NetAt C H s1 ms R L) (h2 : Tup H t xs) (a1 : ms.length < 1000) (b1 : L.length < 1000) (nf : PySem.W.notFirst K C (.type "tuple") = true) (kt : PySem.W.kitOne K (.type "tuple") (.ref C) = some false)
    (q : Q (.bl (neg != false)) H) : rOwnC K C (spEqN K C) neg (.ref s1) (.ref t) H Q := by
  obtain ⟨dx, pm, pn, pl, qs, ps, hN, _⟩ := h1.ob
  exact ⟨s1, dx, _, .type "tuple", rfl, hN, h2.ty, nf, s1, .ref t, ms, R, L, rfl, h1, a1, b1, .inl ⟨"tuple", h2.ty, kt, _, rfl, q⟩⟩
/-! ### texts of small data -/
structure Rep (d : PyData) : Prop where
  s : d.showable = true
  n : d.hasDict = false
  h : d.depth ≤ 64
  l : d.shown.length ≤ sizeLine
structure Sm (d : PyData) (w k : Nat) : Prop where
  s : d.showable = true
  n : d.hasDict = false
  l : d.leavesShort 13 = true
  w : d.weight ≤ w
  h : d.depth ≤ k
structure SmA (ds : List PyData) (w k : Nat) : Prop where
  s : PyData.showableAll ds = true
  n : PyData.hasDictAll ds = false
  l : PyData.leavesShortAll 13 ds = true
  w : PyData.weightAll ds ≤ w * ds.length
  h : PyData.depthAll ds ≤ k
theorem Sm.rep {d : PyData} {w k : Nat} (h : Sm d w k) (hw : w ≤ 1000000) (hk : k ≤ 64) : Rep d := by
  refine ⟨h.s, h.n, Nat.le_trans h.h hk, ?_⟩
  have q := PyData.shown_le 13 (by decide) d h.l
  have w' := h.w
  have z : sizeLine = 16777216 := by decide
  omega
theorem sm_int {i : Int} (h0 : 0 ≤ i) (h1 : i < 1000) : Sm (.int i) 11 0 := by
  have hl : i.natAbs.log2 < 10 := PySem.Flt.log2_lt_of (by decide) (by omega : i.natAbs < 2 ^ 10)
  refine ⟨decide_eq_true (by omega), rfl, ?_, ?_, Nat.le_refl _⟩
  · exact decide_eq_true (PyData.shown_int_le (by omega))
  · show (if i == 0 then 0 else i.natAbs.log2 + 1) ≤ 11
    split <;> omega
theorem SmA.nil {w k : Nat} : SmA [] w k := ⟨rfl, rfl, rfl, Nat.zero_le _, Nat.zero_le _⟩
theorem SmA.cons {d : PyData} {ds : List PyData} {w k : Nat} (a : Sm d w k) (b : SmA ds (w + 1) k) : SmA (d :: ds) (w + 1) k := by
  refine ⟨?_, ?_, ?_, ?_, ?_⟩
  · show (d.showable && PyData.showableAll ds) = true
    rw [a.s, b.s]; rfl
  · show (d.hasDict || PyData.hasDictAll ds) = false
    rw [a.n, b.n]; rfl
  · show (d.leavesShort 13 && PyData.leavesShortAll 13 ds) = true
    rw [a.l, b.l]; rfl
  · show d.weight + 1 + PyData.weightAll ds ≤ (w + 1) * (ds.length + 1)
    have := a.w; have := b.w
    rw [Nat.mul_add]; omega
  · show max d.depth (PyData.depthAll ds) ≤ k
    have := a.h; have := b.h
    omega
theorem SmA.tuple {ds : List PyData} {w k : Nat} (a : SmA ds w k) : Sm (.tuple ds) (w * ds.length) (k + 1) :=
  ⟨a.s, a.n, a.l, a.w, Nat.add_le_add_right a.h 1⟩
theorem Sm.mono {d : PyData} {w k w' k' : Nat} (h : Sm d w k) (hw : w ≤ w') (hk : k ≤ k') : Sm d w' k' := ⟨h.s, h.n, h.l, Nat.le_trans h.w hw, Nat.le_trans h.h hk⟩
theorem sm_ints : ∀ {r : List Int}, (∀ x ∈ r, 0 ≤ x ∧ x < 10) → SmA (r.map PyData.int) 12 0
  | [], _ => .nil
  | x :: r, h => .cons (sm_int (h x (by simp)).1 (by have := (h x (by simp)).2; omega)) (sm_ints fun y hy => h y (by simp [hy]))
theorem sm_pair {e : Int × Int} (a0 : 0 ≤ e.1) (a1 : e.1 < 10) (b0 : 0 ≤ e.2) (b1 : e.2 < 10) : Sm (dP e) 24 1 :=
  (SmA.cons (sm_int a0 (by omega)) (SmA.cons (sm_int b0 (by omega)) (SmA.nil (w := 12) (k := 0)))).tuple
theorem sm_pairs : ∀ {L : List (Int × Int)}, (∀ e ∈ L, 0 ≤ e.1 ∧ e.1 < 10 ∧ 0 ≤ e.2 ∧ e.2 < 10) → SmA (L.map dP) 25 1
  | [], _ => .nil
  | e :: L, h => by
    obtain ⟨h1, h2, h3, h4⟩ := h e (by simp)
    exact .cons (sm_pair h1 h2 h3 h4) (sm_pairs fun y hy => h y (by simp [hy]))
def dNet (ms : List Int) (L : List (Int × Int)) : PyData := .tuple [.tuple (ms.map PyData.int), .tuple (L.map dP)]
theorem rep_net {ms : List Int} {L : List (Int × Int)} (hm : ∀ m ∈ ms, 0 ≤ m ∧ m < 4) (lm : ms.length ≤ 10) (hL : ∀ e ∈ L, 0 ≤ e.1 ∧ e.1 < 10 ∧ 0 ≤ e.2 ∧ e.2 < 10) (lL : L.length ≤ 40) : Rep (dNet ms L) := by
  have a := (sm_ints (r := ms) fun x hx => by have := hm x hx; omega).tuple
  rw [List.length_map] at a
  have b := (sm_pairs hL).tuple
  rw [List.length_map] at b
  have c := (SmA.cons (a.mono (w' := 1000) (k' := 2) (by omega) (by decide)) (SmA.cons (b.mono (w' := 1000) (k' := 2) (by omega) (Nat.le_refl _)) (SmA.nil (w := 1001) (k := 2)))).tuple
  exact c.rep (by show 1001 * 2 ≤ _; decide) (by decide)
theorem dp_net {K : PySem.W.Frag} {H : Hp} {t x y : Addr} {ps : List Addr} {ms : List Int} {L : List (Int × Int)} (ht : H t = some (.tup [.ref x, .ref y])) (hx : Tup H x (ms.map V.int)) (hy : Tup H y (ps.map V.ref)) (hp : Paired (PairAt H) ps L) : Dp K H (.ref t) (dNet ms L) :=
  .tup (SqT.of ht) (.cons (.tup hx.sq (dA_ints K H ms)) (.cons (.tup hy.sq (dp_pairs hp)) .nil))
theorem perm_pairs {H : Hp} {ps : List Addr} {L : List (Int × Int)} {ys : List V} (hp : Paired (PairAt H) ps L) (pm : ys.Perm (ps.map V.ref)) : ∃ qs M, ys = qs.map V.ref ∧ Paired (PairAt H) qs M ∧ M.Perm L := by
  have mem : ∀ x ∈ ps.map V.ref, ∃ t, x = V.ref t ∧ PairAt H t (keyOf H x) := fun x hx => by
    obtain ⟨t, ht, rfl⟩ := List.mem_map.mp hx
    obtain ⟨i, hi⟩ := List.getElem?_of_mem ht
    obtain ⟨e, _, he⟩ := paired_get hp hi
    exact ⟨t, rfl, by rw [keyOf_at he]; exact he⟩
  have keys : (ps.map V.ref).map (keyOf H) = L := by
    clear mem pm
    induction hp with
    | nil => rfl
    | cons x _ ih => rw [List.map_cons, List.map_cons, ih, keyOf_at x]
  have my : ∀ y ∈ ys, ∃ t, y = V.ref t ∧ PairAt H t (keyOf H y) := fun y hy => mem y (pm.mem_iff.mp hy)
  refine ⟨ys.map addrOf, ys.map (keyOf H), ?_, ?_, by rw [← keys]; exact pm.map _⟩
  · clear pm
    induction ys with
    | nil => rfl
    | cons y ys ih =>
      obtain ⟨t, rfl, _⟩ := my y List.mem_cons_self
      rw [List.map_cons, List.map_cons, ← ih fun z hz => my z (List.mem_cons_of_mem _ hz)]
      rfl
  · clear pm
    induction ys with
    | nil => exact .nil
    | cons y ys ih =>
      obtain ⟨t, rfl, ht⟩ := my y List.mem_cons_self
      exact .cons ht (ih fun z hz => my z (List.mem_cons_of_mem _ hz))
/-! ### views as data -/
def dV (w : Int × List Int) : PyData := .tuple [.int w.1, .tuple (w.2.map PyData.int)]
theorem ViewAt.dp {K : PySem.W.Frag} {H : Hp} {v : Addr} {w : Int × List Int} (h : ViewAt H v w) : Dp K H (.ref v) (dV w) := by
  obtain ⟨r, h1, h2⟩ := h
  exact .tup (SqT.of h1) (.cons (.int _) (.cons (.tup (SqT.of h2) (dA_ints K H w.2)) .nil))
theorem dp_views {K : PySem.W.Frag} {H : Hp} {vs : List Addr} {ws : List (Int × List Int)} (h : Paired (ViewAt H) vs ws) : DpAll K H (vs.map V.ref) (ws.map dV) := by
  induction h with
  | nil => exact .nil
  | cons a _ ih => exact .cons a.dp ih
theorem dV_eqv1 (u w : Int × List Int) : PyData.eqv (dV u) (dV w) = decide (u = w) := by
  obtain ⟨a, r⟩ := u
  obtain ⟨b, s⟩ := w
  show ((a == b) && (PyData.eqvAll (r.map PyData.int) (s.map PyData.int) && true)) = _
  rw [dA_eqv]
  by_cases h1 : a = b
  · by_cases h2 : r = s <;> simp [h1, h2]
  · simp [h1]
theorem dV_eqv : ∀ L M : List (Int × List Int), PyData.eqvAll (L.map dV) (M.map dV) = decide (L = M)
  | [], [] => rfl
  | [], m :: ms => by simp [PyData.eqvAll]
  | n :: ns, [] => by simp [PyData.eqvAll]
  | n :: ns, m :: ms => by
    show (PyData.eqv (dV n) (dV m) && PyData.eqvAll (ns.map dV) (ms.map dV)) = _
    rw [dV_eqv ns ms, dV_eqv1]
    by_cases h1 : n = m
    · by_cases h2 : ns = ms <;> simp [h1, h2]
    · simp [h1]
theorem dV_lay1 (w : Int × List Int) : PyData.canLay0 (dV w) = true := by
  show (PyData.canLay0 (.int w.1) && (PyData.canLayAll0 (w.2.map PyData.int) && true)) = true
  rw [dA_lay]; rfl
theorem dV_lay : ∀ L : List (Int × List Int), PyData.canLayAll0 (L.map dV) = true
  | [] => rfl
  | n :: ns => by
    show (PyData.canLay0 (dV n) && PyData.canLayAll0 (ns.map dV)) = true
    rw [dV_lay ns, dV_lay1]; rfl
theorem dV_dep1 (w : Int × List Int) : PyData.depth (dV w) ≤ 3 := by
  show max 0 (max (PyData.depthAll (w.2.map PyData.int) + 1) 0) + 1 ≤ 3
  have := dA_dep w.2
  omega
theorem dV_dep : ∀ L : List (Int × List Int), PyData.depthAll (L.map dV) ≤ 3
  | [] => Nat.zero_le 3
  | n :: ns => by
    have h := dV_dep ns
    have h1 := dV_dep1 n
    show max (PyData.depth (dV n)) (PyData.depthAll (ns.map dV)) ≤ 3
    omega
theorem dV_shL (L : List (Int × List Int)) : SeqAt.shaped (.list (L.map dV)) = true := by
  have h := dV_dep L
  have h1 : PyData.depth (.list (L.map dV)) = PyData.depthAll (L.map dV) + 1 := rfl
  unfold SeqAt.shaped
  have h2 : PyData.canLay0 (.list (L.map dV)) = PyData.canLayAll0 (L.map dV) := rfl
  rw [h2, dV_lay, h1, Bool.true_and]
  exact decide_eq_true (by omega)
theorem dV_shT (L : List (Int × List Int)) : SeqAt.shaped (.tuple (L.map dV)) = true := by
  have h := dV_dep L
  have h1 : PyData.depth (.tuple (L.map dV)) = PyData.depthAll (L.map dV) + 1 := rfl
  unfold SeqAt.shaped
  have h2 : PyData.canLay0 (.tuple (L.map dV)) = PyData.canLayAll0 (L.map dV) := rfl
  rw [h2, dV_lay, h1, Bool.true_and]
  exact decide_eq_true (by omega)
theorem dV_sh1 (w : Int × List Int) : SeqAt.shaped (dV w) = true := by
  have h := dV_dep1 w
  unfold SeqAt.shaped
  rw [dV_lay1, Bool.true_and]
  exact decide_eq_true (by omega)
end K03

namespace K03
open PySem PySem.Spec PyProof.Rows L2 KX
local macro_rules | `(tactic| walk_at "rd1") => `(tactic| first
  | with_reducible refine rd_seq ?_
  | with_reducible refine rd_for ?_
  | with_reducible refine rd_lc ?_
  | with_reducible refine rd_asg ?_
  | ((with_reducible refine' rd_var ?rdv ?_); (case rdv => exact rfl))
  | with_reducible refine rd_c ?_
  | with_reducible refine rd_op ?_
  | with_reducible refine rd_un ?_
  | with_reducible refine rd_cons ?_
  | with_reducible refine rd_nil ?_
  | with_reducible refine rd_call ?_
  | with_reducible refine rd_cb ?_
  | with_reducible refine rd_tB ?_
  | with_reducible refine rd_test ?_
  | with_reducible refine rd_bl ?_
  | with_reducible refine rd_rI0 ?_
  | with_reducible refine rd_eqI ?_
  | with_reducible refine rd_neI ?_
  | with_reducible refine rd_rU ?_
  | with_reducible refine rd_name ?_
  | with_reducible refine rd_ifs ?_
  | with_reducible refine rd_and ?_
  | with_reducible refine rd_or ?_
  | with_reducible refine rd_not ?_
  | with_reducible refine rd_yes ?_
  | with_reducible refine rd_andV ?_
  | with_reducible refine rd_orV ?_
  | with_reducible refine rd_notV ?_
  | with_reducible refine rd_if ?_
  | with_reducible refine rd_isN ?_
  | with_reducible refine rd_iT ?_
  | with_reducible refine rd_iF ?_
  | with_reducible refine rd_ret ?_
  | with_reducible refine rd_retN ?_
  | with_reducible refine rd_drop ?_
  | with_reducible refine rd_next ?_
  | with_reducible refine rd_cont ?_
  | with_reducible refine rd_brk ?_
  | with_reducible refine rd_nx ?_
  | with_reducible refine rd_rt ?_
  | with_reducible refine rd_ct ?_
  | with_reducible refine rd_bk ?_
  | with_reducible refine rd_par ?_
  | with_reducible refine rd_par3 ?_
  | with_reducible refine rd_par2 ?_
  | with_reducible refine rd_par33 ?_
  | with_reducible refine rd_gcons ?_
  | with_reducible refine rd_gnil ?_
  | with_reducible refine rd_sub ?_
  | with_reducible refine rd_tup ?_
  | with_reducible refine rd_lst ?_
  | ((with_reducible refine rd_tupT ?hl ?_); (case hl => exact Nat.le_of_ble_eq_true rfl))
  | ((with_reducible refine rd_lstT ?hl ?_); (case hl => exact Nat.le_of_ble_eq_true rfl))
  | with_reducible refine rd_bm ?_
  | with_reducible refine rd_bm0 ?_
  | with_reducible refine rd_sl ?_
  | with_reducible refine rd_noP ?_
  | with_reducible refine rd_part ?_
  | with_reducible refine rd_int ?_
  | with_reducible refine rd_int1 ?_
  | with_reducible refine rd_fld ?_
  | with_reducible refine rd_then ?_
  | with_reducible refine rd_raise ?_
  | with_reducible refine rd_one ?_
  | with_reducible refine rd_sfld ?_
  | with_reducible refine rd_ilist ?_
  | with_reducible refine rd_itup ?_
  | with_reducible refine rd_rng1 ?_
  | with_reducible refine rd_enum ?_
  | with_reducible refine rd_enumT ?_)
local macro_rules | `(tactic| walk_at "rd") => `(tactic| repeat (walk_at "rd1"))
theorem tif_rest {b : Bool} {tA tB : TE} {σ : L2.St} {H : Hp} {Q : VK} (R : V → Hp → Prop) (hR : ∀ x H', R x H' → Q x H') (h1 : b = true → ∀ Q' : VK, (∀ x H', R x H' → Q' x H') → tA σ H Q') (h2 : b = false → ∀ Q' : VK, (∀ x H', R x H' → Q' x H') → tB σ H Q') : if b = true then tA σ H Q else tB σ H Q := by
  cases b with
  | true => rw [if_pos rfl]; exact h1 rfl Q hR
  | false => rw [if_neg Bool.false_ne_true]; exact h2 rfl Q hR
theorem tup_fix {H H' : Hp} {p q a : Addr} {xs : List V} (f : Fix p q H H') (d : Deal H p q) (h : Tup H a xs) : Tup H' a xs := by
  rcases h with h | ⟨o, h⟩
  · exact .inl (f.keep d h fun _ e => nomatch e)
  · exact .inr ⟨o, f.keep d h fun _ e => nomatch e⟩
theorem view_fix {H H' : Hp} {p q v : Addr} {w : Int × List Int} (h : ViewAt H v w) (d : Deal H p q) (f : Fix p q H H') : ViewAt H' v w := by
  obtain ⟨r, h1, h2⟩ := h
  exact ⟨r, f.keep d h1 (fun _ e => nomatch e), f.keep d h2 (fun _ e => nomatch e)⟩
theorem pe_revLK {X : Cx} {K : PySem.W.Frag} {e : Expr} {te : TE} {k : Nat} {p1 p2 p3 pos : Pos} (he : PE X e te) (hK : X.K = K := by rfl) : PE X (.Subscript e (.Slice none none (some (.UnaryOp .USub (.Constant (.int 1) k p1) p2)) p3) pos) (tRevL K te) := by subst hK; exact pe_revL he
theorem rd_revL {K : PySem.W.Frag} {te : TE} {σ : L2.St} {H : Hp} {Q : VK} (h : te σ H fun x H1 => ∃ a xs, x = .ref a ∧ SqL K H1 a xs ∧ ∀ p, H1 p = none → Q (.ref p) (upd H1 p (.lst xs.reverse))) : tRevL K te σ H Q := h
/-- a list that is not the deal's, or a tuple -/
def SqA (p q : Addr) (H : Hp) (y : V) (xs : List V) : Prop := ∃ a, y = .ref a ∧ ((a ≠ p ∧ a ≠ q ∧ H a = some (.lst xs)) ∨ Tup H a xs)
theorem SqA.x {K : PySem.W.Frag} {p q : Addr} {H : Hp} {y : V} {xs : List V} (h : SqA p q H y xs) : SqX K H y (some xs) := by
  obtain ⟨a, rfl, ⟨_, _, h⟩ | h⟩ := h
  · exact .lst h
  · exact .tup h
theorem SqA.fix {p q : Addr} {H H' : Hp} {y : V} {xs : List V} (h : SqA p q H y xs) (d : Deal H p q) (f : Fix p q H H') : SqA p q H' y xs := by
  obtain ⟨a, rfl, ⟨n1, n2, h⟩ | h⟩ := h
  · exact ⟨a, rfl, .inl ⟨n1, n2, f a _ n1 n2 h⟩⟩
  · exact ⟨a, rfl, .inr (tup_fix f d h)⟩
theorem SqA.same {p q : Addr} {H H' : Hp} {y : V} {xs : List V} (h : SqA p q H y xs) (s : Same H H') : SqA p q H' y xs := by
  obtain ⟨a, rfl, ⟨n1, n2, h⟩ | h⟩ := h
  · exact ⟨a, rfl, .inl ⟨n1, n2, s _ _ h⟩⟩
  · exact ⟨a, rfl, .inr (h.same s)⟩
theorem SqA.upd {p q D : Addr} {H : Hp} {y : V} {xs ys zs : List V} (h : SqA p q H y xs) (hD : H D = some (.lst ys)) (n : y ≠ .ref D) : SqA p q (L2.upd H D (.lst zs)) y xs := by
  obtain ⟨a, rfl, ⟨n1, n2, h⟩ | h⟩ := h
  · exact ⟨a, rfl, .inl ⟨n1, n2, by rw [upd_ne (fun e => n (by rw [e]))]; exact h⟩⟩
  · refine ⟨a, rfl, .inr ?_⟩
    rcases h with t | ⟨o, t⟩
    · exact .inl (by rw [upd_ne (fun e => n (by rw [e]))]; exact t)
    · exact .inr ⟨o, by rw [upd_ne (fun e => n (by rw [e]))]; exact t⟩
structure GoodV (k : Int) (w : Int × List Int) : Prop where
  m0 : 0 ≤ w.1
  m1 : w.1 < k
  r : ∀ x ∈ w.2, 0 ≤ x ∧ x < k
  l : w.2.length ≤ 4
  s : w.2.Pairwise (· ≤ ·)
section
variable {P : Program} {w : World} {K : PySem.W.Frag} {mg : Str → Option Value} {base : Heap} (T : TX K mg)
end
end K03

namespace K03
open PySem PySem.Spec PyProof.Rows L2 KX
/-! ### views: a mode, its neighbours -/
abbrev Vw := Int × List Int
def vKey (c : Vw) : NestedKey := .tup [.num c.1, .tup (c.2.map NestedKey.num)]
def VAt (H : Hp) (x : V) (c : Vw) : Prop := ∃ p r, x = .ref p ∧ Tup H p [.int c.1, .ref r] ∧ Tup H r (c.2.map V.int)
theorem VAt.mono {H H' : Hp} {x : V} {c : Vw} (h : VAt H x c) (s : ∀ a xs, Tup H a xs → Tup H' a xs) : VAt H' x c := by
  obtain ⟨p, r, e, h1, h2⟩ := h
  exact ⟨p, r, e, s _ _ h1, s _ _ h2⟩
theorem VAt.same {H H' : Hp} {x : V} {c : Vw} (h : VAt H x c) (s : Same H H') : VAt H' x c := h.mono fun _ _ t => t.same s
theorem ViewAt.v {H : Hp} {v : Addr} {c : Vw} (h : ViewAt H v c) : VAt H (.ref v) c := by
  obtain ⟨r, h1, h2⟩ := h
  exact ⟨v, r, rfl, Tup.of h1, Tup.of h2⟩
theorem vs_at {H : Hp} {vs : List Addr} {ws : List Vw} (h : Paired (ViewAt H) vs ws) : Paired (VAt H) (vs.map V.ref) ws := by
  induction h with
  | nil => exact .nil
  | cons a _ ih => exact .cons a.v ih
theorem keyAll_nums {H : Hp} : ∀ row : List Int, KeyAll H (row.map NestedKey.num) (row.map V.int)
  | [] => .nil
  | i :: row => .cons (.int i) (keyAll_nums row)
theorem all_nums {H : Hp} : ∀ {row : List Int} {xs : List V}, KeyAll H (row.map NestedKey.num) xs → xs = row.map V.int
  | [], _, h => by cases h; rfl
  | i :: row, _, h => by
    cases h with
    | cons a t =>
      cases a
      rw [all_nums t]; rfl
theorem VAt.key {H : Hp} {x : V} {c : Vw} (h : VAt H x c) : KeyAt H (vKey c) x := by
  obtain ⟨p, r, rfl, h1, h2⟩ := h
  exact .tup h1 (.cons (.int _) (.cons (.tup h2 (keyAll_nums _)) .nil))
theorem VAt.of_key {H : Hp} {x : V} {c : Vw} (h : KeyAt H (vKey c) x) : VAt H x c := by
  unfold vKey at h
  cases h with
  | @tup p xs _ h t =>
    cases t with
    | cons a t =>
      cases a
      cases t with
      | cons b t =>
        cases b with
        | @tup r ys _ hr tr =>
          cases t
          obtain rfl := all_nums tr
          exact ⟨p, r, rfl, h, hr⟩
theorem map_num_inj : ∀ {l m : List Int}, l.map NestedKey.num = m.map NestedKey.num → l = m
  | [], [], _ => rfl
  | [], _ :: _, h => by cases h
  | _ :: _, [], h => by cases h
  | x :: l, y :: m, h => by
    rw [List.map_cons, List.map_cons] at h
    obtain ⟨h1, h2⟩ := List.cons.inj h
    cases h1
    rw [map_num_inj h2]
theorem vKey_inj {c d : Vw} (h : vKey c = vKey d) : c = d := by
  obtain ⟨m, r⟩ := c
  obtain ⟨m', r'⟩ := d
  unfold vKey at h
  injection h with h
  injection h with h1 h
  injection h with h2 h
  injection h1 with h1
  injection h2 with h2
  have h1 : m = m' := h1
  have h2 : r = r' := map_num_inj h2
  rw [h1, h2]
theorem depth_nums : ∀ row : List Int, NestedKey.depthAll (row.map NestedKey.num) = 0
  | [] => rfl
  | i :: row => by
    show max (NestedKey.depth (.num i)) (NestedKey.depthAll (row.map NestedKey.num)) = 0
    rw [depth_nums row]; rfl
theorem vKey_depth (c : Vw) : (vKey c).depth ≤ 8 := by
  show max 0 (max (NestedKey.depthAll (c.2.map NestedKey.num) + 1) 0) + 1 ≤ 8
  rw [depth_nums]; decide
theorem VAt.dp {K : PySem.W.Frag} {H : Hp} {x : V} {c : Vw} (h : VAt H x c) : Dp K H x (dV c) := by
  obtain ⟨p, r, rfl, h1, h2⟩ := h
  exact .tup h1.sq (.cons (.int _) (.cons (.tup h2.sq (dA_ints K H c.2)) .nil))
theorem dp_vs {K : PySem.W.Frag} {H : Hp} {xs : List V} {cs : List Vw} (h : Paired (VAt H) xs cs) : DpAll K H xs (cs.map dV) := by
  induction h with
  | nil => exact .nil
  | cons a _ ih => exact .cons a.dp ih
theorem alike_ints : ∀ l m : List Int, PySem.W.alikeAll (l.map PyData.int) (m.map PyData.int) = true
  | [], _ => by rw [List.map_nil, PySem.W.alikeAll]
  | _ :: _, [] => by rw [List.map_nil, List.map_cons, PySem.W.alikeAll]
  | x :: l, y :: m => by rw [List.map_cons, List.map_cons, PySem.W.alikeAll, alike_ints l m]; rfl
theorem alike_v (c d : Vw) : PySem.W.alike (dV c) (dV d) = true := by
  unfold dV
  rw [PySem.W.alike, PySem.W.alikeAll, PySem.W.alikeAll, PySem.W.alikeAll, PySem.W.alike, PySem.W.alike, alike_ints]; rfl
theorem tup_v (c : Vw) : ∃ x r, dV c = .tuple (x :: r) := ⟨_, _, rfl⟩
theorem dep_v (c : Vw) : (dV c).depth ≤ 3 := by
  show max 0 (max (PyData.depthAll (c.2.map PyData.int) + 1) 0) + 1 ≤ 3
  have := KX.depth_ints c.2
  omega
/-! ### sorted -/
def leV (a b : Vw) : Bool := PySem.W.dataLe false dV a b
def sortV (l : List Vw) : List Vw := l.mergeSort (PySem.W.dataLe false dV)
theorem sortV_perm (l : List Vw) : (sortV l).Perm l := List.mergeSort_perm _ _
theorem sortV_srt (l : List Vw) : (sortV l).Pairwise fun a b => leV a b = true := by
  have z := PySem.W.sortLe_total (PyProof.Rows.listOrd PyProof.Rows.itemOrd) false fun b : Vw => PySem.W.keyToks (dV b)
  exact List.pairwise_mergeSort (le := PySem.W.dataLe false dV) z.trans (fun a b => by
    rcases z.total a b with h | h
    · have h : PySem.W.dataLe false dV a b = true := h
      rw [h]; rfl
    · have h : PySem.W.dataLe false dV b a = true := h
      rw [h, Bool.or_true]) l
def rowToks (r : List Int) : List (Int ⊕ List Nat) := PySem.W.keyToksAll (r.map PyData.int)
theorem toks_v (c : Vw) : PySem.W.keyToks (dV c) = (.inl 1 :: .inl c.1 :: .inl 1 :: rowToks c.2) ++ [.inl 0] := by
  unfold dV rowToks
  simp [PySem.W.keyToks, PySem.W.keyToksAll]
theorem row_toks_inj : ∀ {r s : List Int} {a b : List (Int ⊕ List Nat)}, rowToks r ++ a = rowToks s ++ b → r = s ∧ a = b
  | [], [], a, b, h => by
    have h : (Sum.inl 0 : Int ⊕ List Nat) :: a = Sum.inl 0 :: b := h
    exact ⟨rfl, (List.cons.inj h).2⟩
  | [], y :: s, a, b, h => by
    have h : (Sum.inl 0 : Int ⊕ List Nat) :: a = Sum.inl 1 :: (([Sum.inl y] ++ PySem.W.keyToksAll (s.map PyData.int)) ++ b) := h
    cases (List.cons.inj h).1
  | x :: r, [], a, b, h => by
    have h : Sum.inl 1 :: (([Sum.inl x] ++ PySem.W.keyToksAll (r.map PyData.int)) ++ a) = (Sum.inl 0 : Int ⊕ List Nat) :: b := h
    cases (List.cons.inj h).1
  | x :: r, y :: s, a, b, h => by
    have h : Sum.inl 1 :: (Sum.inl x :: (rowToks r ++ a)) = (Sum.inl 1 : Int ⊕ List Nat) :: (Sum.inl y :: (rowToks s ++ b)) := h
    obtain ⟨h1, h2⟩ := List.cons.inj (List.cons.inj h).2
    obtain ⟨e1, e2⟩ := row_toks_inj h2
    cases h1
    exact ⟨by rw [e1], e2⟩
theorem toks_inj {c d : Vw} (h : PySem.W.keyToks (dV c) = PySem.W.keyToks (dV d)) : c = d := by
  rw [toks_v, toks_v] at h
  obtain ⟨m, r⟩ := c
  obtain ⟨m', r'⟩ := d
  simp only [List.cons_append, List.append_assoc] at h
  obtain ⟨_, h⟩ := List.cons.inj h
  obtain ⟨h1, h⟩ := List.cons.inj h
  obtain ⟨_, h⟩ := List.cons.inj h
  obtain ⟨h2, _⟩ := row_toks_inj h
  cases h1
  cases h2
  rfl
theorem leV_anti {a b : Vw} (h1 : leV a b = true) (h2 : leV b a = true) : a = b := by
  have h1 : (!PyProof.Rows.lexLt PyProof.Rows.itemOrd (PySem.W.keyToks (dV b)) (PySem.W.keyToks (dV a))) = true := h1
  have h2 : (!PyProof.Rows.lexLt PyProof.Rows.itemOrd (PySem.W.keyToks (dV a)) (PySem.W.keyToks (dV b))) = true := h2
  rw [Bool.not_eq_true'] at h1 h2
  exact toks_inj (PyProof.Rows.lex_total _ _ h2 h1)
theorem sortV_uniq {l m : List Vw} (p : l.Perm m) : sortV l = sortV m :=
  (((sortV_perm l).trans p).trans (sortV_perm m).symm).eq_of_pairwise (fun a b _ _ h1 h2 => leV_anti h1 h2) (sortV_srt l) (sortV_srt m)
theorem sortV_of {l m : List Vw} (p : m.Perm l) (h : m.Pairwise fun a b => leV a b = true) : sortV l = m :=
  ((sortV_perm l).trans p.symm).eq_of_pairwise (fun a b _ _ h1 h2 => leV_anti h1 h2) (sortV_srt l) h
/-! ### as data -/
theorem dV_any (c : Vw) : ∀ L : List Vw, (L.map dV).any (fun d => PyData.eqv d (dV c)) = decide (c ∈ L)
  | [] => rfl
  | d :: L => by
    show (PyData.eqv (dV d) (dV c) || (L.map dV).any (fun d => PyData.eqv d (dV c))) = _
    rw [dV_any c L, dV_eqv1]
    by_cases e : d = c
    · simp [e]
    · have : ¬ c = d := fun z => e z.symm
      simp [e, this]
/-! ### the dict of views that are known -/
def kvC (bs : List Vw) : List (NestedKey × V) := bs.map fun c => (vKey c, V.bl true)
theorem kvC_val (bs : List Vw) (c : Vw) : (valV (kvC bs) (vKey c)).isSome = decide (c ∈ bs) := by
  induction bs with
  | nil => rfl
  | cons b bs ih =>
    show (valV ((vKey b, V.bl true) :: kvC bs) (vKey c)).isSome = _
    by_cases e : c = b
    · subst e
      rw [valV_pos rfl]; simp
    · rw [valV_neg (fun z => e (vKey_inj z).symm), ih]
      simp [e]
theorem kvC_snoc {bs : List Vw} {c : Vw} (h : c ∉ bs) : putK (kvC bs) (vKey c) (V.bl true) = kvC (bs ++ [c]) := by
  have z := kvC_val bs c
  rw [decide_eq_false h] at z
  have z : valV (kvC bs) (vKey c) = none := by
    cases e : valV (kvC bs) (vKey c) with
    | none => rfl
    | some v => rw [e] at z; cases z
  rw [putK_new _ z]
  unfold kvC
  rw [List.map_append]; rfl
theorem kvC_keys (bs : List Vw) : (kvC bs).map (·.1) = bs.map vKey := by
  unfold kvC
  rw [List.map_map]; rfl
/-! ### the dict of places -/
def kvS : Nat → List Vw → List (NestedKey × V)
  | _, [] => []
  | i, w :: ws => (vKey w, V.int (i : Nat)) :: kvS (i + 1) ws
theorem kvS_snoc : ∀ (i : Nat) (ws : List Vw) (w : Vw), kvS i (ws ++ [w]) = kvS i ws ++ [(vKey w, V.int ((i + ws.length : Nat) : Int))]
  | i, [], w => rfl
  | i, v :: ws, w => by
    show (vKey v, V.int (i : Nat)) :: kvS (i + 1) (ws ++ [w]) = _
    rw [kvS_snoc (i + 1) ws w]
    have e : i + 1 + ws.length = i + (v :: ws).length := by rw [List.length_cons]; omega
    rw [e]; rfl
theorem kvS_none : ∀ (i : Nat) {ws : List Vw} {w : Vw}, w ∉ ws → valV (kvS i ws) (vKey w) = none
  | _, [], _, _ => rfl
  | i, v :: ws, w, h => by
    show valV ((vKey v, V.int (i : Nat)) :: kvS (i + 1) ws) (vKey w) = none
    rw [valV_neg (fun z => h (by rw [← vKey_inj z]; exact List.mem_cons_self))]
    exact kvS_none (i + 1) fun z => h (List.mem_cons_of_mem _ z)
theorem kvS_get : ∀ (i : Nat) {ws : List Vw} {j : Nat} {w : Vw}, ws.Nodup → ws[j]? = some w → valV (kvS i ws) (vKey w) = some (V.int ((i + j : Nat) : Int))
  | _, [], _, _, _, h => by simp at h
  | i, v :: ws, 0, w, _, h => by
    obtain rfl : v = w := by simpa using h
    show valV ((vKey v, V.int (i : Nat)) :: kvS (i + 1) ws) (vKey v) = _
    rw [valV_pos rfl]; rfl
  | i, v :: ws, j + 1, w, n, h => by
    have h : ws[j]? = some w := by simpa using h
    obtain ⟨n1, n2⟩ := List.nodup_cons.mp n
    show valV ((vKey v, V.int (i : Nat)) :: kvS (i + 1) ws) (vKey w) = _
    rw [valV_neg (fun z => n1 (by rw [vKey_inj z]; exact List.mem_of_getElem? h)), kvS_get (i + 1) n2 h]
    have e : i + 1 + j = i + (j + 1) := by omega
    rw [e]
theorem kvS_put {ws : List Vw} {w : Vw} (h : w ∉ ws) : putK (kvS 0 ws) (vKey w) (V.int ((ws.length : Nat) : Int)) = kvS 0 (ws ++ [w]) := by
  rw [putK_new _ (kvS_none 0 h), kvS_snoc, Nat.zero_add]
theorem kvS_len : ∀ (i : Nat) (ws : List Vw), (kvS i ws).length = ws.length
  | _, [] => rfl
  | i, _ :: ws => by
    show (kvS (i + 1) ws).length + 1 = ws.length + 1
    rw [kvS_len]
end K03

namespace K03
open PySem PySem.Spec PyProof.Rows L2 KX
local macro_rules | `(tactic| walk_at "rd1") => `(tactic| first
  | with_reducible refine rd_seq ?_
  | with_reducible refine rd_for ?_
  | with_reducible refine rd_lc ?_
  | with_reducible refine rd_asg ?_
  | ((with_reducible refine' rd_var ?rdv ?_); (case rdv => exact rfl))
  | with_reducible refine rd_c ?_
  | with_reducible refine rd_op ?_
  | with_reducible refine rd_un ?_
  | with_reducible refine rd_cons ?_
  | with_reducible refine rd_nil ?_
  | with_reducible refine rd_call ?_
  | with_reducible refine rd_cb ?_
  | with_reducible refine rd_tB ?_
  | with_reducible refine rd_test ?_
  | with_reducible refine rd_bl ?_
  | with_reducible refine rd_rI0 ?_
  | with_reducible refine rd_eqI ?_
  | with_reducible refine rd_neI ?_
  | with_reducible refine rd_rU ?_
  | with_reducible refine rd_name ?_
  | with_reducible refine rd_ifs ?_
  | with_reducible refine rd_and ?_
  | with_reducible refine rd_or ?_
  | with_reducible refine rd_not ?_
  | with_reducible refine rd_yes ?_
  | with_reducible refine rd_andV ?_
  | with_reducible refine rd_orV ?_
  | with_reducible refine rd_notV ?_
  | with_reducible refine rd_if ?_
  | with_reducible refine rd_isN ?_
  | with_reducible refine rd_iT ?_
  | with_reducible refine rd_iF ?_
  | with_reducible refine rd_ret ?_
  | with_reducible refine rd_retN ?_
  | with_reducible refine rd_drop ?_
  | with_reducible refine rd_next ?_
  | with_reducible refine rd_cont ?_
  | with_reducible refine rd_brk ?_
  | with_reducible refine rd_nx ?_
  | with_reducible refine rd_rt ?_
  | with_reducible refine rd_ct ?_
  | with_reducible refine rd_bk ?_
  | with_reducible refine rd_par ?_
  | with_reducible refine rd_par3 ?_
  | with_reducible refine rd_par2 ?_
  | with_reducible refine rd_par33 ?_
  | with_reducible refine rd_gcons ?_
  | with_reducible refine rd_gnil ?_
  | with_reducible refine rd_sub ?_
  | with_reducible refine rd_tup ?_
  | with_reducible refine rd_lst ?_
  | ((with_reducible refine rd_tupT ?hl ?_); (case hl => exact Nat.le_of_ble_eq_true rfl))
  | ((with_reducible refine rd_lstT ?hl ?_); (case hl => exact Nat.le_of_ble_eq_true rfl))
  | with_reducible refine rd_bm ?_
  | with_reducible refine rd_bm0 ?_
  | with_reducible refine rd_sl ?_
  | with_reducible refine rd_noP ?_
  | with_reducible refine rd_part ?_
  | with_reducible refine rd_int ?_
  | with_reducible refine rd_int1 ?_
  | with_reducible refine rd_fld ?_
  | with_reducible refine rd_then ?_
  | with_reducible refine rd_raise ?_
  | with_reducible refine rd_one ?_
  | with_reducible refine rd_sfld ?_
  | with_reducible refine rd_ilist ?_
  | with_reducible refine rd_itup ?_
  | with_reducible refine rd_rng1 ?_
  | with_reducible refine rd_enum ?_
  | with_reducible refine rd_enumT ?_)
local macro_rules | `(tactic| walk_at "rd") => `(tactic| repeat (walk_at "rd1"))
/-- what is a view, and what is not -/
inductive VwX (K : PySem.W.Frag) (H : Hp) : V → Option Vw → Prop
  | ntp {x : V} {n : String} (t : TyX K H x (.type n)) (k : kitB n "tuple" = some false) : VwX K H x none
  | len {a : Addr} {xs : List V} (h : Tup H a xs) (l : xs.length ≠ 2) : VwX K H (.ref a) none
  | mode {a : Addr} {y z : V} {o : Option Int} (h : Tup H a [y, z]) (k : Kin K H y o) (b : bel4 o = false) : VwX K H (.ref a) none
  | row {a : Addr} {y z : V} {o : Option Int} {n : String} (h : Tup H a [y, z]) (k : Kin K H y o) (t : TyX K H z (.type n)) (kt : kitB n "tuple" = some false) : VwX K H (.ref a) none
  | bad {a r : Addr} {y : V} {o : Option Int} {zs : List V} (h : Tup H a [y, .ref r]) (k : Kin K H y o) (hz : Tup H r zs) (n : NbIs K H (.ref r) false) : VwX K H (.ref a) none
  | uns {a r : Addr} {m : Int} {ns : List Int} (h : Tup H a [.int m, .ref r]) (hz : Tup H r (ns.map V.int)) (m0 : 0 ≤ m) (m4 : m < 4) (hn : ∀ n ∈ ns, 0 ≤ n ∧ n < 4) (l : ns.length ≤ 4) (s : ns ≠ sortI ns) : VwX K H (.ref a) none
  | ok {a r : Addr} {m : Int} {ns : List Int} (h : Tup H a [.int m, .ref r]) (hz : Tup H r (ns.map V.int)) (m0 : 0 ≤ m) (m4 : m < 4) (hn : ∀ n ∈ ns, 0 ≤ n ∧ n < 4) (l : ns.length ≤ 4) (s : ns = sortI ns) : VwX K H (.ref a) (some (m, ns))
theorem nb_same {K : PySem.W.Frag} {H H' : Hp} {x : V} {b : Bool} (h : NbIs K H x b) (s : Same H H') : NbIs K H' x b := by
  cases h with
  | oth h => exact .oth (sqx_same h s)
  | long h l => exact .long (sqx_same h s) l
  | all h k l => exact .all (sqx_same h s) (kins_same k s) l
theorem nb_sn {K : PySem.W.Frag} {H H' : Hp} {x : V} {b : Bool} (h : NbIs K H x b) (s : Sn H H') : NbIs K H' x b := by
  cases h with
  | oth h => exact .oth (sqx_sn h s)
  | long h l => exact .long (sqx_sn h s) l
  | all h k l => exact .all (sqx_sn h s) (paired_mono k fun _ _ z => kin_sn z s) l
theorem VwX.same {K : PySem.W.Frag} {H H' : Hp} {x : V} {o : Option Vw} (h : VwX K H x o) (s : Same H H') : VwX K H' x o := by
  cases h with
  | ntp t k => exact .ntp (tyx_same t s) k
  | len h l => exact .len (h.same s) l
  | mode h k b => exact .mode (h.same s) (kin_same k s) b
  | row h k t kt => exact .row (h.same s) (kin_same k s) (tyx_same t s) kt
  | bad h k hz n => exact .bad (h.same s) (kin_same k s) (hz.same s) (nb_same n s)
  | uns h hz m0 m4 hn l q => exact .uns (h.same s) (hz.same s) m0 m4 hn l q
  | ok h hz m0 m4 hn l q => exact .ok (h.same s) (hz.same s) m0 m4 hn l q
theorem VwX.sn {K : PySem.W.Frag} {H H' : Hp} {x : V} {o : Option Vw} (h : VwX K H x o) (s : Sn H H') : VwX K H' x o := by
  cases h with
  | ntp t k => exact .ntp (tyx_sn t s) k
  | len h l => exact .len (tup_sn h s) l
  | mode h k b => exact .mode (tup_sn h s) (kin_sn k s) b
  | row h k t kt => exact .row (tup_sn h s) (kin_sn k s) (tyx_sn t s) kt
  | bad h k hz n => exact .bad (tup_sn h s) (kin_sn k s) (tup_sn hz s) (nb_sn n s)
  | uns h hz m0 m4 hn l q => exact .uns (tup_sn h s) (tup_sn hz s) m0 m4 hn l q
  | ok h hz m0 m4 hn l q => exact .ok (tup_sn h s) (tup_sn hz s) m0 m4 hn l q
theorem VwX.v {K : PySem.W.Frag} {H : Hp} {x : V} {w : Vw} (h : VwX K H x (some w)) : VAt H x w := by
  cases h with
  | ok h hz => exact ⟨_, _, rfl, h, hz⟩
theorem VwX.good {K : PySem.W.Frag} {H : Hp} {x : V} {w : Vw} (h : VwX K H x (some w)) : GoodV 4 w := by
  cases h with
  | ok h hz m0 m4 hn l s => exact ⟨m0, m4, hn, l, by show List.Pairwise _ _; rw [s]; exact sortI_srt _⟩
theorem VAt.vwx {K : PySem.W.Frag} {H : Hp} {x : V} {w : Vw} (h : VAt H x w) (g : GoodV 4 w) : VwX K H x (some w) := by
  obtain ⟨p, r, rfl, h1, h2⟩ := h
  exact .ok h1 h2 g.m0 g.m1 g.r g.l (sortI_of (List.Perm.refl _) g.s)
theorem nb_ints {K : PySem.W.Frag} {H : Hp} {b : V} {ns : List Int} (sb : SqX K H b (some (ns.map V.int))) (l : ns.length ≤ 4) (r : ∀ n ∈ ns, 0 ≤ n ∧ n < 4) : NbIs K H b true := by
  have z := NbIs.all (K := K) sb (kin_all K H ns) (by simpa using l)
  have e : (ns.map some).all bel4 = true := by
    refine List.all_eq_true.mpr fun o ho => ?_
    obtain ⟨m, hm, rfl⟩ := List.mem_map.mp ho
    exact bel4_of (r m hm).1 (r m hm).2
  rwa [e] at z
def belowV (k : Int) (w : Vw) : Bool := decide (w.1 < k) && w.2.all fun n => decide (n < k)
theorem belowV_iff {k : Int} {w : Vw} : belowV k w = true ↔ w.1 < k ∧ ∀ n ∈ w.2, n < k := by
  unfold belowV
  rw [Bool.and_eq_true, List.all_eq_true]
  exact ⟨fun h => ⟨of_decide_eq_true h.1, fun n hn => of_decide_eq_true (h.2 n hn)⟩, fun h => ⟨decide_eq_true h.1, fun n hn => decide_eq_true (h.2 n hn)⟩⟩
/-- what is a view below k modes -/
def VbX (K : PySem.W.Frag) (H : Hp) (k : Int) (x : V) (o : Option Vw) : Prop := ∃ o', VwX K H x o' ∧ o = o'.bind fun w => if belowV k w = true then some w else none
theorem VbX.same {K : PySem.W.Frag} {H H' : Hp} {k : Int} {x : V} {o : Option Vw} (h : VbX K H k x o) (s : Same H H') : VbX K H' k x o := by
  obtain ⟨o', h1, h2⟩ := h
  exact ⟨o', h1.same s, h2⟩
theorem VbX.sn {K : PySem.W.Frag} {H H' : Hp} {k : Int} {x : V} {o : Option Vw} (h : VbX K H k x o) (s : Sn H H') : VbX K H' k x o := by
  obtain ⟨o', h1, h2⟩ := h
  exact ⟨o', h1.sn s, h2⟩
theorem VbX.v {K : PySem.W.Frag} {H : Hp} {k : Int} {x : V} {w : Vw} (h : VbX K H k x (some w)) : VAt H x w := by
  obtain ⟨o', h1, h2⟩ := h
  cases o' with
  | none => cases h2
  | some w' =>
    have h2 : some w = if belowV k w' = true then some w' else none := h2
    by_cases b : belowV k w' = true
    · rw [if_pos b] at h2; cases h2; exact h1.v
    · rw [if_neg b] at h2; cases h2
def spIsView (K : PySem.W.Frag) : L2.Sp := fun vs H Q _ => ∃ (x : V) (o : Option Vw), vs = [x] ∧ VwX K H x o ∧ ∀ H', Same H H' → Q (.bl o.isSome) H'
def spIsVB (K : PySem.W.Frag) : L2.Sp := fun vs H Q _ => ∃ (x : V) (k : Int) (o : Option Vw), vs = [x, .int k] ∧ VbX K H k x o ∧ ∀ H', Same H H' → Q (.bl o.isSome) H'
theorem kit_tt : kitB "tuple" "tuple" = some true := by decide +kernel
section
variable {P : Program} {w : World} {K : PySem.W.Frag} {mg : Str → Option Value} {base : Heap} (T : TX K mg)
theorem G_is_view : FnOk P w K mg base CX0 6 T.f_is_view T.d_is_view ["value"] (spIsView K) := by
  refine T.F_is_view.ok sc_is_view (fun vs H Q E h => ?_) fun cdv A outer s H vs Q E hr h => ⟨_, (pss_cons (ps_if (pt_not (pt_val (pe_call (G_is_tuple_of T) (hr.mono (by decide)) (by rfl) T.m_is_tuple_of T.F_is_tuple_of.kp T.b_is_tuple_of .nil pass0 (by exact (pa_cons (pv 0) (pa_cons pe_int pa_nil)))))) (pss_one (ps_ret pe_bl)) pss_nil) (pss_cons (ps_asg (pv 0) (pg_tupK (K := K) (n := 2) (by rfl) (pgs_cons (pg_name (i := 1) sc_is_view.nd rfl (.inl rfl)) (pgs_cons (pg_name (i := 2) sc_is_view.nd rfl (.inl rfl)) pgs_nil)))) (pss_cons (ps_if (PW.pt (pw_or (pt_not (pt_val (pe_call (G_is_mode T) (hr.mono (by decide)) (by rfl) T.m_is_mode T.F_is_mode.kp T.b_is_mode .nil pass0 (by exact (pa_cons (pv 1) pa_nil))))) (pw_or (pt_not (pt_val (pe_callB (cr_isiK (K := K)) (by rfl) T.n_isinstance (by decide +kernel) (by exact (pa_cons (pv 2) (pa_cons (pe_bltn (v := .ty "tuple") rfl T.n_tuple (by decide +kernel) rfl) pa_nil)))))) (pw_or1 (pt_not (pt_val (pe_call (G_are_neighbours T) (hr.mono (by decide)) (by rfl) T.m_are_neighbours T.F_are_neighbours.kp T.b_are_neighbours .nil pass0 (by exact (pa_cons (pv 2) pa_nil))))))))) (pss_one (ps_ret pe_bl)) pss_nil) (pss_one (ps_ret (pe_cmpR (op_eqDK (K := K) hr.units) (pv 2) (pe_tupleK (K := K) (by rfl) T.n_tuple (pe_callB (cr_sortTK (K := K)) (by rfl) T.n_sorted (by decide +kernel) (by exact (pa_cons (pv 2) pa_nil)))) (nomark _))))))), ?_⟩
  · obtain ⟨x, o, rfl, _⟩ := h
    rfl
  · obtain ⟨x, o, rfl, hx, hQ⟩ := h
    cases hx with
    | ntp t k =>
      walk_at "rd"
      refine ⟨_, 2, rfl, .inl ⟨_, t, k, ?_⟩⟩
      walk_at "rd"
      refine iteT' rfl ?_
      walk_at "rd"
      exact hQ H (Same.refl H)
    | @len a xs h l =>
      walk_at "rd"
      refine ⟨_, 2, rfl, .inr ⟨a, xs, rfl, h, ?_⟩⟩
      rw [decide_eq_false (by omega)]
      walk_at "rd"
      refine iteT' rfl ?_
      walk_at "rd"
      exact hQ H (Same.refl H)
    | @mode a y z o h k b =>
      walk_at "rd"
      refine ⟨_, 2, rfl, .inr ⟨a, _, rfl, h, ?_⟩⟩
      walk_at "rd"
      refine iteF' rfl ?_
      walk_at "rd"
      refine rd_gtup h rfl ?_
      walk_at "rd"
      refine ⟨_, _, rfl, k, ?_⟩
      rw [b]
      walk_at "rd"
      refine iteT' rfl ?_
      walk_at "rd"
      exact hQ H (Same.refl H)
    | @row a y z o n h k t kt =>
      walk_at "rd"
      refine ⟨_, 2, rfl, .inr ⟨a, _, rfl, h, ?_⟩⟩
      walk_at "rd"
      refine iteF' rfl ?_
      walk_at "rd"
      refine rd_gtup h rfl ?_
      walk_at "rd"
      refine ⟨_, _, rfl, k, ?_⟩
      cases bel4 o with
      | false =>
        walk_at "rd"
        refine iteT' rfl ?_
        walk_at "rd"
        exact hQ H (Same.refl H)
      | true =>
        walk_at "rd"
        refine iteF' rfl ?_
        walk_at "rd"
        refine ⟨_, _, _, _, false, rfl, .ty "tuple", t, kit_ty kt, ?_⟩
        walk_at "rd"
        refine iteT' rfl ?_
        walk_at "rd"
        exact hQ H (Same.refl H)
    | @bad a r y o zs h k hz n =>
      walk_at "rd"
      refine ⟨_, 2, rfl, .inr ⟨a, _, rfl, h, ?_⟩⟩
      walk_at "rd"
      refine iteF' rfl ?_
      walk_at "rd"
      refine rd_gtup h rfl ?_
      walk_at "rd"
      refine ⟨_, _, rfl, k, ?_⟩
      cases bel4 o with
      | false =>
        walk_at "rd"
        refine iteT' rfl ?_
        walk_at "rd"
        exact hQ H (Same.refl H)
      | true =>
        walk_at "rd"
        refine iteF' rfl ?_
        walk_at "rd"
        refine ⟨_, _, _, _, true, rfl, .ty "tuple", hz.ty, kit_ty kit_tt, ?_⟩
        walk_at "rd"
        refine iteF' rfl ?_
        walk_at "rd"
        refine ⟨_, false, rfl, n, fun H1 S1 => ?_⟩
        walk_at "rd"
        refine iteT' rfl ?_
        walk_at "rd"
        exact hQ H1 S1
    | @uns a r m ns h hz m0 m4 hn l q =>
      walk_at "rd"
      refine ⟨_, 2, rfl, .inr ⟨a, _, rfl, h, ?_⟩⟩
      walk_at "rd"
      refine iteF' rfl ?_
      walk_at "rd"
      refine rd_gtup h rfl ?_
      walk_at "rd"
      refine ⟨_, _, rfl, .int m, ?_⟩
      rw [bel4_of m0 m4]
      walk_at "rd"
      refine iteF' rfl ?_
      walk_at "rd"
      refine ⟨_, _, _, _, true, rfl, .ty "tuple", hz.ty, kit_ty kit_tt, ?_⟩
      walk_at "rd"
      refine iteF' rfl ?_
      walk_at "rd"
      refine ⟨_, true, rfl, nb_ints (.tup hz) l hn, fun H1 S1 => ?_⟩
      walk_at "rd"
      refine iteF' rfl ?_
      walk_at "rd"
      refine ⟨r, ns, rfl, (hz.same S1).sq, by omega, fun ns' u pm srt hu => ?_⟩
      have en : ns' = sortI ns := sortI_of pm srt
      have S2 : Same H (upd H1 u (.lst (ns'.map V.int))) := S1.trans (Same.fresh hu)
      refine rd_tupL (xs := ns'.map V.int) upd_same ?_
      intro v H3 v0 S3 hv
      refine ⟨.tuple (ns.map PyData.int), .tuple (ns'.map PyData.int), .tup (hz.same (S2.trans S3)).sq (dA_ints K H3 ns), .tup (SqT.of hv) (dA_ints K H3 ns'), sh_ints ns, sh_ints ns', ?_⟩
      have ev : PyData.eqv (.tuple (ns.map PyData.int)) (.tuple (ns'.map PyData.int)) = decide (ns = ns') := dA_eqv ns ns'
      rw [ev, en, decide_eq_false q]
      exact hQ H3 (S2.trans S3)
    | @ok a r m ns h hz m0 m4 hn l q =>
      walk_at "rd"
      refine ⟨_, 2, rfl, .inr ⟨a, _, rfl, h, ?_⟩⟩
      walk_at "rd"
      refine iteF' rfl ?_
      walk_at "rd"
      refine rd_gtup h rfl ?_
      walk_at "rd"
      refine ⟨_, _, rfl, .int m, ?_⟩
      rw [bel4_of m0 m4]
      walk_at "rd"
      refine iteF' rfl ?_
      walk_at "rd"
      refine ⟨_, _, _, _, true, rfl, .ty "tuple", hz.ty, kit_ty kit_tt, ?_⟩
      walk_at "rd"
      refine iteF' rfl ?_
      walk_at "rd"
      refine ⟨_, true, rfl, nb_ints (.tup hz) l hn, fun H1 S1 => ?_⟩
      walk_at "rd"
      refine iteF' rfl ?_
      walk_at "rd"
      refine ⟨r, ns, rfl, (hz.same S1).sq, by omega, fun ns' u pm srt hu => ?_⟩
      have en : ns' = sortI ns := sortI_of pm srt
      have S2 : Same H (upd H1 u (.lst (ns'.map V.int))) := S1.trans (Same.fresh hu)
      refine rd_tupL (xs := ns'.map V.int) upd_same ?_
      intro v H3 v0 S3 hv
      refine ⟨.tuple (ns.map PyData.int), .tuple (ns'.map PyData.int), .tup (hz.same (S2.trans S3)).sq (dA_ints K H3 ns), .tup (SqT.of hv) (dA_ints K H3 ns'), sh_ints ns, sh_ints ns', ?_⟩
      have ev : PyData.eqv (.tuple (ns.map PyData.int)) (.tuple (ns'.map PyData.int)) = decide (ns = ns') := dA_eqv ns ns'
      rw [ev, en, decide_eq_true q]
      exact hQ H3 (S2.trans S3)
theorem G_is_view_below : FnOk P w K mg base CX0 7 T.f_is_view_below T.d_is_view_below ["value", "modes"] (spIsVB K) := by
  refine T.F_is_view_below.ok sc_is_view_below (fun vs H Q E h => ?_) fun cdv A outer s H vs Q E hr h => ⟨_, (pss_cons (ps_if (pt_not (pt_val (pe_call (G_is_view T) (hr.mono (by decide)) (by rfl) T.m_is_view T.F_is_view.kp T.b_is_view .nil pass0 (by exact (pa_cons (pv 0) pa_nil))))) (pss_one (ps_ret pe_bl)) pss_nil) (pss_cons (ps_asg (pv 0) (pg_tupK (K := K) (n := 2) (by rfl) (pgs_cons (pg_name (i := 2) sc_is_view_below.nd rfl (.inl rfl)) (pgs_cons (pg_name (i := 3) sc_is_view_below.nd rfl (.inl rfl)) pgs_nil)))) (pss_one (ps_ret (pe_cmpR op_lt (pe_callB (cr_maxK (K := K) rfl) (by rfl) T.n_max (by decide +kernel) (by exact (pa_cons (pe_lst (pa_cons (pv 2) (pa_starK (K := K) (pv 3) pa_nil))) pa_nil))) (pv 1) (nomark _)))))), ?_⟩
  · obtain ⟨x, k, o, rfl, _⟩ := h
    rfl
  · obtain ⟨x, k, o, rfl, ⟨o', hx, rfl⟩, hQ⟩ := h
    walk_at "rd"
    refine ⟨_, _, rfl, hx, fun H1 S1 => ?_⟩
    walk_at "rd"
    cases o' with
    | none =>
      refine iteT' rfl ?_
      walk_at "rd"
      exact hQ H1 S1
    | some w' =>
      refine iteF' rfl ?_
      obtain ⟨p, r, rfl, h1, h2⟩ := (hx.same S1).v
      walk_at "rd"
      refine rd_gtup h1 rfl ?_
      walk_at "rd"
      refine rd_starA ?_
      walk_at "rd"
      refine ⟨r, w'.2.map V.int, rfl, .inl h2.sq, ?_⟩
      walk_at "rd"
      have gw := hx.good.l
      refine rd_lstT (by simp; omega) ?_
      intro l H2 l0 S2 hl
      walk_at "rd"
      have el : V.int w'.1 :: (w'.2.map V.int ++ []) = (w'.1 :: w'.2).map V.int := by simp
      rw [el] at hl
      refine rd_max hl (by simp) fun m hm gm => ?_
      walk_at "rd"
      have e : decide (m < k) = (Option.bind (some w') fun w => if belowV k w = true then some w else none).isSome := by
        show decide (m < k) = (if belowV k w' = true then some w' else none).isSome
        by_cases b : belowV k w' = true
        · rw [if_pos b]
          obtain ⟨b1, b2⟩ := belowV_iff.mp b
          refine decide_eq_true ?_
          rcases List.mem_cons.mp hm with z | z
          · rw [z]; exact b1
          · exact b2 _ z
        · rw [if_neg b]
          refine decide_eq_false fun z => b (belowV_iff.mpr ⟨?_, fun n hn => ?_⟩)
          · have := gm _ List.mem_cons_self; omega
          · have := gm _ (List.mem_cons_of_mem _ hn); omega
      rw [e]
      exact hQ H2 (S1.trans S2)
end
end K03

namespace K03
open PySem PySem.Spec PyProof.Rows L2 KX
local macro_rules | `(tactic| walk_at "rd1") => `(tactic| first
  | with_reducible refine rd_seq ?_
  | with_reducible refine rd_for ?_
  | with_reducible refine rd_lc ?_
  | with_reducible refine rd_asg ?_
  | ((with_reducible refine' rd_var ?rdv ?_); (case rdv => exact rfl))
  | with_reducible refine rd_c ?_
  | with_reducible refine rd_op ?_
  | with_reducible refine rd_un ?_
  | with_reducible refine rd_cons ?_
  | with_reducible refine rd_nil ?_
  | with_reducible refine rd_call ?_
  | with_reducible refine rd_cb ?_
  | with_reducible refine rd_tB ?_
  | with_reducible refine rd_test ?_
  | with_reducible refine rd_bl ?_
  | with_reducible refine rd_rI0 ?_
  | with_reducible refine rd_eqI ?_
  | with_reducible refine rd_neI ?_
  | with_reducible refine rd_rU ?_
  | with_reducible refine rd_name ?_
  | with_reducible refine rd_ifs ?_
  | with_reducible refine rd_and ?_
  | with_reducible refine rd_or ?_
  | with_reducible refine rd_not ?_
  | with_reducible refine rd_yes ?_
  | with_reducible refine rd_andV ?_
  | with_reducible refine rd_orV ?_
  | with_reducible refine rd_notV ?_
  | with_reducible refine rd_if ?_
  | with_reducible refine rd_isN ?_
  | with_reducible refine rd_iT ?_
  | with_reducible refine rd_iF ?_
  | with_reducible refine rd_ret ?_
  | with_reducible refine rd_retN ?_
  | with_reducible refine rd_drop ?_
  | with_reducible refine rd_next ?_
  | with_reducible refine rd_cont ?_
  | with_reducible refine rd_brk ?_
  | with_reducible refine rd_nx ?_
  | with_reducible refine rd_rt ?_
  | with_reducible refine rd_ct ?_
  | with_reducible refine rd_bk ?_
  | with_reducible refine rd_par ?_
  | with_reducible refine rd_par3 ?_
  | with_reducible refine rd_par2 ?_
  | with_reducible refine rd_par33 ?_
  | with_reducible refine rd_gcons ?_
  | with_reducible refine rd_gnil ?_
  | with_reducible refine rd_sub ?_
  | with_reducible refine rd_tup ?_
  | with_reducible refine rd_lst ?_
  | ((with_reducible refine rd_tupT ?hl ?_); (case hl => exact Nat.le_of_ble_eq_true rfl))
  | ((with_reducible refine rd_lstT ?hl ?_); (case hl => exact Nat.le_of_ble_eq_true rfl))
  | with_reducible refine rd_bm ?_
  | with_reducible refine rd_bm0 ?_
  | with_reducible refine rd_sl ?_
  | with_reducible refine rd_noP ?_
  | with_reducible refine rd_part ?_
  | with_reducible refine rd_int ?_
  | with_reducible refine rd_int1 ?_
  | with_reducible refine rd_fld ?_
  | with_reducible refine rd_then ?_
  | with_reducible refine rd_raise ?_
  | with_reducible refine rd_one ?_
  | with_reducible refine rd_sfld ?_
  | with_reducible refine rd_ilist ?_
  | with_reducible refine rd_itup ?_
  | with_reducible refine rd_rng1 ?_
  | with_reducible refine rd_enum ?_
  | with_reducible refine rd_enumT ?_)
local macro_rules | `(tactic| walk_at "rd") => `(tactic| repeat (walk_at "rd1"))
/-- where the first wrong view stands -/
def spCV (P : Program) (w : World) (K : PySem.W.Frag) (CV : Addr) : L2.Sp := fun vs H Q E => ∃ (k : Int) (x : V) (o : Option (List V)), vs = [.int k, x] ∧ 1 ≤ k ∧ k ≤ 4 ∧ SqX K H x o ∧ (o = none → ErrAt CV E H 0) ∧
  ∀ xs, o = some xs → xs.length < 1000 ∧ ∃ cs : List (Option Vw), Paired (VbX K H k) xs cs ∧
    (∀ (i : Nat) (bs : List Vw) (c : Option Vw), cs.take i = bs.map some → bs.Nodup → cs[i]? = some c → (∀ d, c = some d → d ∈ bs) → ErrAt CV E H i) ∧
    (∀ bs : List Vw, cs = bs.map some → bs.Nodup → ∀ H' t ys, Same H H' → Tup H' t ys → Paired (VAt H') ys (sortV bs) → Q (.ref t) H')
/-- whole numbers, so many -/
def spCI (K : PySem.W.Frag) (CS : Addr) : L2.Sp := fun vs H Q E => ∃ (x : V) (n : Nat) (o : Option (List V)), vs = [x, .int (n : Nat)] ∧ SqX K H x o ∧ (o = none → ErrAt CS E H n) ∧
  ∀ xs, o = some xs → xs.length < 1000000 ∧ ∃ os : List (Option Int), Paired (Kin K H) xs os ∧
    (∀ i : Nat, os[i]? = some none → (∀ j, j < i → ∃ m, os[j]? = some (some m)) → ErrAt CS E H i) ∧
    (∀ ns : List Int, os = ns.map some → (ns.length ≠ n → ErrAt CS E H n) ∧ (ns.length = n → ∀ H' t, Same H H' → Tup H' t (ns.map V.int) → Q (.ref t) H'))
section
variable {P : Program} {w : World} {K : PySem.W.Frag} {mg : Str → Option Value} {base : Heap} (T : TX K mg)
theorem G_checked_views : FnOk P w K mg base (L2.CX P w) 8 T.f_checked_views T.d_checked_views ["modes", "views"] (spCV P w K T.c_InvalidView) := by
  refine T.F_checked_views.okX sc_checked_views (fun vs H Q E h => ?_) fun cdv A outer s H vs Q E hr h => ⟨_, (pss_cons (ps_if (pt_not (pt_val (pe_call (G_is_sequence T) (hr.mono (by decide)) (by rfl) T.m_is_sequence T.F_is_sequence.kp T.b_is_sequence .nil pass0 (by exact (pa_cons (pv 1) pa_nil))))) (pss_one (ps_raiseErrZ rfl T.E_InvalidView hr (takes_of rfl rfl rfl rfl) (by exact (pa_cons pe_int pa_nil)))) pss_nil) (pss_cons (ps_set (i := 2) sc_checked_views.nd rfl (.inl rfl) (pe_dnewN (P := P) (w := w))) (pss_cons (ps_for (passes_of rfl) rfl (PI.or (pi_enumK (K := K) (by rfl) T.n_enumerate (by exact (pa_cons (pv 1) pa_nil))) (pi_enumTK (K := K) (by rfl) T.n_enumerate (by exact (pa_cons (pv 1) pa_nil)))) (pg_tupK (K := K) (n := 2) (by rfl) (pgs_cons (pg_name (i := 3) sc_checked_views.nd rfl (.inl rfl)) (pgs_cons (pg_name (i := 4) sc_checked_views.nd rfl (.inl rfl)) pgs_nil))) (pss_cons (ps_if (PW.pt (pw_or (pt_not (pt_val (pe_call (G_is_view_below T) (hr.mono (by decide)) (by rfl) T.m_is_view_below T.F_is_view_below.kp T.b_is_view_below .nil pass0 (by exact (pa_cons (pv 4) (pa_cons (pv 0) pa_nil)))))) (pw_or1 (pt_cmpR (op_inN (P := P) (w := w) (Room.u9 hr)) (pv 4) (pv 2) (by rfl))))) (pss_one (ps_raiseErrZ rfl T.E_InvalidView hr (takes_of rfl rfl rfl rfl) (by exact (pa_cons (pv 3) pa_nil)))) pss_nil) (pss_one (ps_asg pe_bl (pg_sub (pv 2) (pv 4) (set_N (P := P) (w := w) (Room.u9 hr))))))) (pss_one (ps_ret (pe_tupleK (K := K) (by rfl) T.n_tuple (pe_callB (cr_sortedNK (P := P) (w := w) (K := K) rfl (Room.u64 hr)) (by rfl) T.n_sorted (by decide +kernel) (by exact (pa_cons (pv 2) pa_nil))))))))), ?_⟩
  · obtain ⟨k, x, o, rfl, _⟩ := h
    rfl
  · obtain ⟨k, x, o, rfl, k1, k4, hx, hE, hM⟩ := h
    walk_at "rd"
    refine ⟨_, _, rfl, hx, fun H1 S1 => ?_⟩
    have hx1 := sqx_same hx S1
    walk_at "rd"
    cases o with
    | none =>
      refine rd_iT ?_
      walk_at "rd"
      exact fun d hd => hE rfl H1 d S1 hd
    | some xs =>
      refine rd_iF ?_
      walk_at "rd"
      obtain ⟨lx, cs, hcs, hbad, hgood⟩ := hM xs rfl
      have lc := paired_len hcs
      intro d H2 d0 S2 hd
      have fd : H d = none := S1.free d0
      have hx2 := sqx_same hx1 S2
      have S02 := S1.trans S2
      obtain ⟨b, hb⟩ := hx2.b
      obtain ⟨a, rfl, hs⟩ := hx2.any
      walk_at "rd"
      refine for_enumX (b := b) hb (fun R r => rd_cons (rd_var rfl (rd_nil r))) (fun i σ H3 => Same H H3 ∧ SqB H3 (.ref a) xs b ∧ (∃ o1 o2, σ = [some (.int k), some (.ref a), some (.ref d), o1, o2]) ∧ ∃ bs : List Vw, cs.take i = bs.map some ∧ bs.Nodup ∧ DN P w H3 d (kvC bs) ∧ bs.length = i)
        ⟨S02, hb, ⟨_, _, rfl⟩, [], rfl, .nil, hd, rfl⟩ (fun i σ H3 p => p.2.1) (fun i y σ H3 t H4 hy p ht S4 et => ?_) (fun σ H3 p => ?_)
      · obtain ⟨S3, hb3, ⟨o1, o2, rfl⟩, bs, hbs, nd, hdn, lb⟩ := p
        refine rd_gtup (Tup.of et) rfl ?_
        walk_at "rd"
        obtain ⟨oy, ho, hy'⟩ := paired_get hcs hy
        have S34 := S3.trans S4
        refine ⟨_, _, _, rfl, hy'.same S34, fun H5 S5 => ?_⟩
        have S35 := S34.trans S5
        have hdn5 := (hdn.same S4).same S5
        walk_at "rd"
        cases oy with
        | none =>
          refine iteT' rfl ?_
          walk_at "rd"
          exact fun e he => hbad i bs none hbs nd ho (fun _ z => by cases z) H5 e S35 he
        | some c =>
          refine iteF' rfl ?_
          walk_at "rd"
          have hv := (hy'.v).same S35
          obtain ⟨p, r, rfl, hp, hr2⟩ := id hv
          refine ⟨d, p, _, _, rfl, rfl, hdn5, hv.key, vKey_depth _, ?_⟩
          rw [kvC_val]
          walk_at "rd"
          by_cases hin : c ∈ bs
          · refine iteT' (decide_eq_true hin) ?_
            walk_at "rd"
            exact fun e he => hbad i bs _ hbs nd ho (fun d' z => by cases z; exact hin) H5 e S35 he
          · refine iteF' (decide_eq_false hin) ?_
            walk_at "rd"
            refine ⟨d, p, _, _, rfl, rfl, hdn5, hv.key, vKey_depth _, by unfold kvC; rw [List.length_map]; have := (List.getElem?_eq_some_iff.mp hy).1; omega, fun H9 q1 q2 hd9 => ?_⟩
            rw [kvC_snoc hin] at hd9
            have S9 : Same H H9 := fun c u e => q1 c u (fun z => by rw [z, fd] at e; cases e) (S35 _ _ e)
            walk_at "rd"
            refine ⟨S9, ?_, ⟨_, _, rfl⟩, bs ++ [c], ?_, ?_, hd9, by simp [lb]⟩
            · have hb8 := (hb3.same S4).same S5
              cases b with
              | true =>
                obtain ⟨a', ea, ha'⟩ := hb8
                cases ea
                refine ⟨a, rfl, q1 _ _ (fun z => ?_) ha'⟩
                obtain ⟨zs, hz, _⟩ := hdn5
                rw [z, hz] at ha'; cases ha'
              | false =>
                obtain ⟨a', ea, ha'⟩ := hb8
                cases ea
                obtain ⟨zs, hz, _⟩ := hdn5
                refine ⟨a, rfl, ?_⟩
                rcases ha' with ha' | ⟨o, ha'⟩
                · exact .inl (q1 _ _ (fun z => by rw [z, hz] at ha'; cases ha') ha')
                · exact .inr ⟨o, q1 _ _ (fun z => by rw [z, hz] at ha'; cases ha') ha'⟩
            · rw [List.take_succ, hbs, ho, List.map_append]; rfl
            · exact List.nodup_append.mpr ⟨nd, by simp, fun x hx y hy z => hin (by rw [List.mem_singleton.mp hy] at z; rw [← z]; exact hx)⟩
      · obtain ⟨S3, hb3, ⟨o1, o2, rfl⟩, bs, hbs, nd, hdn, lb⟩ := p
        rw [lc, List.take_length] at hbs
        walk_at "rd"
        refine ⟨Vw, dV, vKey, d, _, bs, rfl, hdn, kvC_keys bs, fun c x h => (VAt.of_key h).dp, alike_v, tup_v, fun c => by have := dep_v c; omega, fun ys p hys hp => ?_⟩
        have S4 : Same H3 (upd H3 p (.lst ys)) := Same.fresh hp
        refine rd_tupL (xs := ys) upd_same ?_
        intro t H5 t0 S5 ht
        have S35 := S4.trans S5
        exact hgood bs hbs nd H5 t ys (S3.trans S35) (Tup.of ht) (paired_mono hys fun y c z => (VAt.of_key z).same S35)
theorem G_checked_integers : FnOk P w K mg base (L2.CX P w) 2 T.f_checked_integers T.d_checked_integers ["value", "many"] (spCI K T.c_InvalidScore) := by
  refine T.F_checked_integers.okX sc_checked_integers (fun vs H Q E h => ?_) fun cdv A outer s H vs Q E hr h => ⟨_, (pss_cons (ps_if (pt_not (pt_val (pe_call (G_is_sequence T) (hr.mono (by decide)) (by rfl) T.m_is_sequence T.F_is_sequence.kp T.b_is_sequence .nil pass0 (by exact (pa_cons (pv 0) pa_nil))))) (pss_one (ps_raiseErrZ rfl T.E_InvalidScore hr (takes_of rfl rfl rfl rfl) (by exact (pa_cons (pv 1) pa_nil)))) pss_nil) (pss_cons (ps_for (passes_of rfl) rfl (PI.or (pi_enumK (K := K) (by rfl) T.n_enumerate (by exact (pa_cons (pv 0) pa_nil))) (pi_enumTK (K := K) (by rfl) T.n_enumerate (by exact (pa_cons (pv 0) pa_nil)))) (pg_tupK (K := K) (n := 2) (by rfl) (pgs_cons (pg_name (i := 2) sc_checked_integers.nd rfl (.inl rfl)) (pgs_cons (pg_name (i := 3) sc_checked_integers.nd rfl (.inl rfl)) pgs_nil))) (pss_one (ps_if (pt_not (pt_val (pe_call (G_is_integer T) (hr.mono (by decide)) (by rfl) T.m_is_integer T.F_is_integer.kp T.b_is_integer .nil pass0 (by exact (pa_cons (pv 3) pa_nil))))) (pss_one (ps_raiseErrZ rfl T.E_InvalidScore hr (takes_of rfl rfl rfl rfl) (by exact (pa_cons (pv 2) pa_nil)))) pss_nil))) (pss_cons (ps_if (pt_cmpR op_ne (pe_callB (cr_lenK (K := K)) (by rfl) T.n_len (by decide +kernel) (by exact (pa_cons (pv 0) pa_nil))) (pv 1) (nomark _)) (pss_one (ps_raiseErrZ rfl T.E_InvalidScore hr (takes_of rfl rfl rfl rfl) (by exact (pa_cons (pv 1) pa_nil)))) pss_nil) (pss_one (ps_ret (pe_tupleK (K := K) (by rfl) T.n_tuple (pv 0))))))), ?_⟩
  · obtain ⟨x, n, o, rfl, _⟩ := h
    rfl
  · obtain ⟨x, n, o, rfl, hx, hE, hM⟩ := h
    walk_at "rd"
    refine ⟨_, _, rfl, hx, fun H1 S1 => ?_⟩
    have hx1 := sqx_same hx S1
    walk_at "rd"
    cases o with
    | none =>
      refine rd_iT ?_
      walk_at "rd"
      exact fun d hd => hE rfl H1 d S1 hd
    | some xs =>
      refine rd_iF ?_
      walk_at "rd"
      obtain ⟨lx, os, hos, hbad, hgood⟩ := hM xs rfl
      have lo := paired_len hos
      obtain ⟨b, hb⟩ := hx1.b
      obtain ⟨a, rfl, hs⟩ := hx1.any
      refine for_enumX (b := b) hb (fun R r => rd_cons (rd_var rfl (rd_nil r))) (fun i σ H3 => Same H H3 ∧ SqB H3 (.ref a) xs b ∧ (∃ o1 o2, σ = [some (.ref a), some (.int (n : Nat)), o1, o2]) ∧ ∀ j, j < i → ∃ m, os[j]? = some (some m))
        ⟨S1, hb, ⟨_, _, rfl⟩, fun j z => absurd z (Nat.not_lt_zero _)⟩ (fun i σ H3 p => p.2.1) (fun i y σ H3 t H4 hy p ht S4 et => ?_) (fun σ H3 p => ?_)
      · obtain ⟨S3, hb3, ⟨o1, o2, rfl⟩, hm⟩ := p
        refine rd_gtup (Tup.of et) rfl ?_
        walk_at "rd"
        obtain ⟨oy, ho, hy'⟩ := paired_get hos hy
        have S34 := S3.trans S4
        refine ⟨_, _, rfl, kin_same hy' S34, ?_⟩
        walk_at "rd"
        cases oy with
        | none =>
          refine rd_iT ?_
          walk_at "rd"
          exact fun e he => hbad i ho hm H4 e S34 he
        | some m =>
          refine rd_iF ?_
          walk_at "rd"
          refine ⟨S34, hb3.same S4, ⟨_, _, rfl⟩, fun j hj => ?_⟩
          by_cases e : j = i
          · rw [e]; exact ⟨m, ho⟩
          · exact hm j (by omega)
      · obtain ⟨S3, hb3, ⟨o1, o2, rfl⟩, hm⟩ := p
        obtain ⟨ns, rfl⟩ : ∃ ns : List Int, os = ns.map some := by
          refine ⟨os.map fun o => o.getD 0, List.ext_getElem? fun j => ?_⟩
          rw [List.getElem?_map, List.getElem?_map]
          by_cases hj : j < os.length
          · obtain ⟨m, hm⟩ := hm j (by omega)
            rw [hm]; rfl
          · rw [List.getElem?_eq_none (by omega)]; rfl
        rw [List.length_map] at lo
        obtain ⟨hbad2, hok⟩ := hgood ns rfl
        have exs : xs = ns.map V.int := by
          clear hgood hbad hM hb hb3 hx1 hs hok hbad2 hm lo lx hx hE
          have gen : ∀ (xs : List V) (ns : List Int), Paired (Kin K H) xs (ns.map some) → xs = ns.map V.int := by
            intro xs ns
            induction ns generalizing xs with
            | nil => intro h; cases h; rfl
            | cons m ns ih =>
              intro h
              cases h with
              | cons h1 h2 =>
                cases h1
                rw [ih _ h2]; rfl
          exact gen xs ns hos
        walk_at "rd"
        have hb3' := hb3.x (K := K)
        obtain ⟨a', ea, hs3⟩ := hb3'.any
        cases ea
        refine rd_lenB hs3 ?_
        walk_at "rd"
        by_cases c : ns.length = n
        · refine iteF' (by simp; omega) ?_
          walk_at "rd"
          refine kTup_b hb3 fun H5 p S5 hp => ?_
          rw [exs] at hp
          exact hok c H5 p (S3.trans S5) hp
        · refine iteT' (by simp; omega) ?_
          walk_at "rd"
          exact fun d hd => hbad2 c H3 d S3 hd
end
end K03

namespace K03
open PySem PySem.Spec PyProof.Rows L2 KX
local macro_rules | `(tactic| walk_at "rd1") => `(tactic| first
  | with_reducible refine rd_seq ?_
  | with_reducible refine rd_for ?_
  | with_reducible refine rd_lc ?_
  | with_reducible refine rd_asg ?_
  | ((with_reducible refine' rd_var ?rdv ?_); (case rdv => exact rfl))
  | with_reducible refine rd_c ?_
  | with_reducible refine rd_op ?_
  | with_reducible refine rd_un ?_
  | with_reducible refine rd_cons ?_
  | with_reducible refine rd_nil ?_
  | with_reducible refine rd_call ?_
  | with_reducible refine rd_cb ?_
  | with_reducible refine rd_tB ?_
  | with_reducible refine rd_test ?_
  | with_reducible refine rd_bl ?_
  | with_reducible refine rd_rI0 ?_
  | with_reducible refine rd_eqI ?_
  | with_reducible refine rd_neI ?_
  | with_reducible refine rd_rU ?_
  | with_reducible refine rd_name ?_
  | with_reducible refine rd_ifs ?_
  | with_reducible refine rd_and ?_
  | with_reducible refine rd_or ?_
  | with_reducible refine rd_not ?_
  | with_reducible refine rd_yes ?_
  | with_reducible refine rd_andV ?_
  | with_reducible refine rd_orV ?_
  | with_reducible refine rd_notV ?_
  | with_reducible refine rd_if ?_
  | with_reducible refine rd_isN ?_
  | with_reducible refine rd_iT ?_
  | with_reducible refine rd_iF ?_
  | with_reducible refine rd_ret ?_
  | with_reducible refine rd_retN ?_
  | with_reducible refine rd_drop ?_
  | with_reducible refine rd_next ?_
  | with_reducible refine rd_cont ?_
  | with_reducible refine rd_brk ?_
  | with_reducible refine rd_nx ?_
  | with_reducible refine rd_rt ?_
  | with_reducible refine rd_ct ?_
  | with_reducible refine rd_bk ?_
  | with_reducible refine rd_par ?_
  | with_reducible refine rd_par3 ?_
  | with_reducible refine rd_par2 ?_
  | with_reducible refine rd_par33 ?_
  | with_reducible refine rd_gcons ?_
  | with_reducible refine rd_gnil ?_
  | with_reducible refine rd_sub ?_
  | with_reducible refine rd_tup ?_
  | with_reducible refine rd_lst ?_
  | ((with_reducible refine rd_tupT ?hl ?_); (case hl => exact Nat.le_of_ble_eq_true rfl))
  | ((with_reducible refine rd_lstT ?hl ?_); (case hl => exact Nat.le_of_ble_eq_true rfl))
  | with_reducible refine rd_bm ?_
  | with_reducible refine rd_bm0 ?_
  | with_reducible refine rd_sl ?_
  | with_reducible refine rd_noP ?_
  | with_reducible refine rd_part ?_
  | with_reducible refine rd_int ?_
  | with_reducible refine rd_int1 ?_
  | with_reducible refine rd_fld ?_
  | with_reducible refine rd_then ?_
  | with_reducible refine rd_raise ?_
  | with_reducible refine rd_one ?_
  | with_reducible refine rd_sfld ?_
  | with_reducible refine rd_ilist ?_
  | with_reducible refine rd_itup ?_
  | with_reducible refine rd_rng1 ?_
  | with_reducible refine rd_enum ?_
  | with_reducible refine rd_enumT ?_)
local macro_rules | `(tactic| walk_at "rd") => `(tactic| repeat (walk_at "rd1"))
theorem rd_chain {r r' : R2} {ta tb tc : TE} {σ : L2.St} {H : Hp} {Q : VK} (h : ta σ H fun x H1 => tb σ H1 fun y H2 => r x y H2 fun z H3 => ∃ k, z = .bl k ∧ (if k = true then tc σ H3 fun w' H4 => r' y w' H4 Q else Q (.bl false) H3)) : tChain r r' ta tb tc σ H Q := h
theorem dn_sn {P : Program} {w : World} {H H' : Hp} {a : Addr} {kvs : List (NestedKey × V)} (h : DN P w H a kvs) (s : Sn H H') : DN P w H' a kvs := h.mono (fun _ e => s _ _ (fun _ _ _ z => nomatch z) e) fun _ _ e => tup_sn e s
theorem rd_nget1 {P : Program} {w : World} {td ty : TE} {σ : L2.St} {H : Hp} {Q : VK} (h : td σ H fun x H1 => ∃ a kvs0, x = .ref a ∧ DN P w H1 a kvs0 ∧ ty σ H1 fun y H2 => ∃ b kvs k, y = .ref b ∧ DN P w H2 a kvs ∧ KeyAt H2 k (.ref b) ∧ k.depth ≤ 8 ∧ Q ((valV kvs k).getD .non) H2) : tNGet1 P w td ty σ H Q := h
theorem rd_dcn {P : Program} {w : World} {wi : TI} {g : TG} {tt : TT} {tk tv : TE} {vs : List Nat} {σ : L2.St} {H : Hp} {Q : VK} (h : wi σ H fun J H1 => ∀ D H2, H1 D = none → Same H1 H2 → DN P w H2 D [] → ∃ W : Nat → Nat → Hp → Prop, (∃ m, W 0 m H2) ∧ ∀ i m H, W i m H →
  (J.stop i H ∧ Q (.ref D) H) ∨ (J.go i H ∧ ∃ N : Hp → Prop, (∀ H', N H' → ∃ m', m' < m ∧ W (i + 1) m' H') ∧ ∀ x H', J.yld i H x H' → g x (wipe σ vs) H' fun σ2 H2 => wipe σ2 vs = wipe σ vs ∧ tt σ2 H2 fun b H3 => if b = true then tk σ2 H3 fun y H4 => tv σ2 H4 fun z H5 => rSetN P w (.ref D) y z H5 N else N H3)) : tDcN P w wi g tt tk tv vs σ H Q := h
/-- a policy stands at s: k modes, these views -/
def PolAt (P : Program) (w : World) (C : Addr) (H : Hp) (s : Addr) (k : Int) (ws : List Vw) : Prop := ∃ dx t d ys, H s = some (.ins C dx (putF "_spots" (.ref d) (putF "views" (.ref t) (putF "modes" (.int k) [])))) ∧ Tup H t ys ∧ Paired (VAt H) ys ws ∧ DN P w H d (kvS 0 ws)
theorem PolAt.same {P : Program} {w : World} {C s : Addr} {H H' : Hp} {k : Int} {ws : List Vw} (h : PolAt P w C H s k ws) (S : Same H H') : PolAt P w C H' s k ws := by
  obtain ⟨dx, t, d, ys, h1, h2, h3, h4⟩ := h
  exact ⟨dx, t, d, ys, S _ _ h1, h2.same S, paired_mono h3 fun _ _ z => z.same S, h4.same S⟩
theorem k_vm : ¬ (("views" : Str) = "modes") := by decide +kernel
theorem k_sm : ¬ (("_spots" : Str) = "modes") := by decide +kernel
theorem k_sv : ¬ (("_spots" : Str) = "views") := by decide +kernel
theorem look_pm {a b c : V} : (putF "_spots" a (putF "views" b (putF "modes" c []))).lookup ("modes" : Str) = some c := by
  rw [lookup_putF, if_neg (fun z => k_sm z.symm), lookup_putF, if_neg (fun z => k_vm z.symm), lookup_putF, if_pos rfl]
theorem look_pv {a b c : V} : (putF "_spots" a (putF "views" b (putF "modes" c []))).lookup ("views" : Str) = some b := by
  rw [lookup_putF, if_neg (fun z => k_sv z.symm), lookup_putF, if_pos rfl]
theorem look_ps {a b c : V} : (putF "_spots" a (putF "views" b (putF "modes" c []))).lookup ("_spots" : Str) = some a := by
  rw [lookup_putF, if_pos rfl]
theorem look_pn {a b c : V} {m : Str} (h1 : ¬ m = "_spots") (h2 : ¬ m = "views") (h3 : ¬ m = "modes") : (putF "_spots" a (putF "views" b (putF "modes" c []))).lookup m = none := by
  rw [lookup_putF, if_neg h1, lookup_putF, if_neg h2, lookup_putF, if_neg h3]; rfl
theorem look_v2 {b c : V} : (putF "views" b (putF "modes" c [])).lookup ("views" : Str) = some b := by
  rw [lookup_putF, if_pos rfl]
def okM : Option Int → Bool
  | some i => decide (1 ≤ i) && decide (i ≤ 4)
  | none => false
def spPol (P : Program) (w : World) (K : PySem.W.Frag) (C CP CV : Addr) : L2.Sp := fun vs H Q E => ∃ (s dx : Addr) (y x : V) (o : Option Int) (ox : Option (List V)), vs = [.ref s, y, x] ∧ H s = some (.ins C dx []) ∧ Kin K H y o ∧
  (okM o = false → ErrX CP E s H 0) ∧ (okM o = true → SqX K H x ox ∧ ∀ k : Int, o = some k → (ox = none → ErrX CV E s H 0) ∧ ∀ xs, ox = some xs → xs.length < 1000 ∧ ∃ cs : List (Option Vw), Paired (VbX K H k) xs cs ∧
    (∀ (i : Nat) (bs : List Vw) (c : Option Vw), cs.take i = bs.map some → bs.Nodup → cs[i]? = some c → (∀ d, c = some d → d ∈ bs) → ErrX CV E s H i) ∧
    (∀ bs : List Vw, cs = bs.map some → bs.Nodup → ∀ H', Ex s H H' → PolAt P w C H' s k (sortV bs) → Q .non H'))
def spotV (ws : List Vw) : Option Vw → V
  | none => .non
  | some c => (valV (kvS 0 ws) (vKey c)).getD .non
def spSpot (P : Program) (w : World) (K : PySem.W.Frag) (C : Addr) : L2.Sp := fun vs H Q _ => ∃ (s : Addr) (x : V) (k : Int) (ws : List Vw) (o : Option Vw), vs = [.ref s, x] ∧ PolAt P w C H s k ws ∧ VwX K H x o ∧ ∀ H', Same H H' → Q (spotV ws o) H'
def spEqP (P : Program) (w : World) (K : PySem.W.Frag) (C : Addr) : L2.Sp := fun vs H Q _ => ∃ (p : Addr) (y : V) (k : Int) (bs : List Vw), vs = [.ref p, y] ∧ PolAt P w C H p k bs ∧
  ((∃ n, TyX K H y (.type n) ∧ PySem.W.kitOne K (.type n) (.ref C) = some false ∧ Q (.bl false) H) ∨
   (∃ q k' bs', y = .ref q ∧ PolAt P w C H q k' bs' ∧ Q (.bl (decide (k = k') && decide (bs = bs'))) H))
section
variable {P : Program} {w : World} {K : PySem.W.Frag} {mg : Str → Option Value} {base : Heap} (T : TX K mg)
theorem G_Policy_init : FnOk P w K mg base (L2.CX P w) 9 T.f_Policy_init T.d_Policy_init ["self", "modes", "views"] (spPol P w K T.c_Policy T.c_InvalidPolicy T.c_InvalidView) := by
  refine T.F_Policy_init.okX sc_Policy_init (fun vs H Q E h => ?_) fun cdv A outer s H vs Q E hr h => ⟨_, (pss_cons (ps_if (PW.pt (pw_or (pt_not (pt_val (pe_call (G_is_integer T) (hr.mono (by decide)) (by rfl) T.m_is_integer T.F_is_integer.kp T.b_is_integer .nil pass0 (by exact (pa_cons (pv 1) pa_nil))))) (pw_or1 (pt_not (pt_chain op_le op_le pe_int (pv 1) (pe_glob (v := .int 4) rfl T.m_MOST_MODES ⟨_, rfl⟩)))))) (pss_one (ps_raiseErrZ rfl T.E_InvalidPolicy hr (takes_of rfl rfl rfl rfl) (by exact (pa_cons pe_int pa_nil)))) pss_nil) (pss_cons (ps_fldK (K := K) (pv 0) (pv 1)) (pss_cons (ps_fldK (K := K) (pv 0) (pe_call (G_checked_views T) (hr.mono (by decide)) (by rfl) T.m_checked_views T.F_checked_views.kp T.b_checked_views .nil (passes_call (takes_of rfl rfl rfl rfl) fun _ _ _ _ z => z) (by exact (pa_cons (pv 1) (pa_cons (pv 2) pa_nil))))) (pss_one (ps_fldK (K := K) (pv 0) (by exact (pe_dcN (own := [("at", 3), ("view", 4)]) (P := P) (w := w) (by rfl) (Room.u9 hr) sc_Policy_init.nd (pi_enumTK (K := K) (by rfl) T.n_enumerate (by exact (pa_cons (pe_fldK (K := K) (pv 0)) pa_nil))) (blkOk_by (own := [("at", 3), ("view", 4)]) (N := N_Policy_init) (sc := defScope s_Policy_init) (by decide +kernel)) (fun _ _ _ _ _ => (pg_tupK (K := K) (n := 2) (by rfl) (pgs_cons (pg_name (i := 3) sc_Policy_init.nd rfl (.inl rfl)) (pgs_cons (pg_name (i := 4) sc_Policy_init.nd rfl (.inl rfl)) pgs_nil)))) (fun _ _ _ _ _ => pts_nil) (fun _ _ _ _ _ => (pv 4)) (fun _ _ _ _ _ => (pv 3)) ))))))), ?_⟩
  · obtain ⟨s, dx, y, x, o, ox, rfl, _⟩ := h
    rfl
  · obtain ⟨s', dx, y, x, o, ox, rfl, hs, ky, hP, hM⟩ := h
    walk_at "rd"
    refine ⟨y, o, rfl, ky, ?_⟩
    walk_at "rd"
    cases o with
    | none =>
      refine iteT' rfl ?_
      walk_at "rd"
      exact fun d hd => hP rfl H d (.same (Same.refl H)) hd
    | some i =>
      cases ky with
      | int i =>
      refine iteF' rfl ?_
      walk_at "rd"
      refine rd_chain ?_
      walk_at "rd"
      obtain ⟨b1, e1⟩ : ∃ b, b = decide (1 ≤ i) := ⟨_, rfl⟩
      obtain ⟨b2, e2⟩ : ∃ b, b = decide (i ≤ 4) := ⟨_, rfl⟩
      have eo : okM (some i) = (b1 && b2) := by rw [e1, e2]; rfl
      rw [eo] at hP hM
      rw [← e1]
      cases b1 with
      | false =>
        refine rd_iF ?_
        walk_at "rd"
        refine iteT' rfl ?_
        walk_at "rd"
        exact fun d hd => hP rfl H d (.same (Same.refl H)) hd
      | true =>
        refine rd_iT ?_
        walk_at "rd"
        rw [← e2]
        cases b2 with
        | false =>
          refine iteT' rfl ?_
          walk_at "rd"
          exact fun d hd => hP rfl H d (.same (Same.refl H)) hd
        | true =>
          refine iteF' rfl ?_
          walk_at "rd"
          obtain ⟨sx, hM⟩ := hM rfl
          obtain ⟨h0, hM⟩ := hM i rfl
          have i1 := of_decide_eq_true e1.symm
          have i4 := of_decide_eq_true e2.symm
          refine ⟨s', _, dx, _, rfl, hs, T.C_Policy, T.A_Policy_modes, by decide, ?_⟩
          have X2 : Ex s' H (upd H s' (.ins T.c_Policy dx (putF "modes" (.int i) []))) := .upd
          have hs2 : upd H s' (.ins T.c_Policy dx (putF "modes" (.int i) [])) s' = some (.ins T.c_Policy dx (putF "modes" (.int i) [])) := upd_same
          generalize upd H s' (.ins T.c_Policy dx (putF "modes" (.int i) [])) = H2 at X2 hs2
          have sn := X2.sn hs
          walk_at "rd"
          refine ⟨i, x, ox, rfl, i1, i4, sqx_sn sx sn, fun e H' d S hd => h0 e H' d (X2.trans (.same S)) hd, fun xs e => ?_⟩
          obtain ⟨lx, cs, hcs, hbad, hgood⟩ := hM xs e
          refine ⟨lx, cs, paired_mono hcs fun _ _ z => z.sn sn, fun j bs c q1 q2 q3 q4 H' d S hd => hbad j bs c q1 q2 q3 q4 H' d (X2.trans (.same S)) hd, fun bs q1 q2 H3 t ys S3 ht hys => ?_⟩
          have lb : bs.length < 1000 := by
            have z := paired_len hcs
            rw [q1, List.length_map] at z
            omega
          walk_at "rd"
          refine ⟨s', _, dx, _, rfl, S3 _ _ hs2, T.C_Policy, T.A_Policy_views, by show 1 < 1000; decide, ?_⟩
          have X4 : Ex s' H (upd H3 s' (.ins T.c_Policy dx (putF "views" (.ref t) (putF "modes" (.int i) [])))) := (X2.trans (.same S3)).trans .upd
          have sn4 : Sn H3 (upd H3 s' (.ins T.c_Policy dx (putF "views" (.ref t) (putF "modes" (.int i) [])))) := (Ex.upd (s := s')).sn (S3 _ _ hs2)
          have hs4 : upd H3 s' (.ins T.c_Policy dx (putF "views" (.ref t) (putF "modes" (.int i) []))) s' = some (.ins T.c_Policy dx (putF "views" (.ref t) (putF "modes" (.int i) []))) := upd_same
          generalize upd H3 s' (.ins T.c_Policy dx (putF "views" (.ref t) (putF "modes" (.int i) []))) = H4 at X4 sn4 hs4
          have ht4 := tup_sn ht sn4
          have hys4 : Paired (VAt H4) ys (sortV bs) := paired_mono hys fun _ _ z => z.mono fun _ _ t => tup_sn t sn4
          walk_at "rd"
          have nds : (sortV bs).Nodup := (sortV_perm bs).nodup_iff.mpr q2
          have lys := paired_len hys4
          have lsb := (sortV_perm bs).length_eq
          refine rd_dcn ?_
          walk_at "rd"
          refine ⟨s', _, dx, _, _, rfl, hs4, T.C_Policy, T.A_Policy_views, look_v2, ?_⟩
          walk_at "rd"
          refine ⟨t, ys, rfl, ht4.sq, fun D H5 hD S5 hd => ?_⟩
          refine it_wk (walk_enumT (K := K) (xs := ys)) (fun n H' => Same H4 H' ∧ DN P w H' D (kvS 0 ((sortV bs).take n))) ⟨S5, hd⟩ (fun n H' _ p => (ht4.same p.1).sq) (fun n v H6 H7 hn p y => ?_) (fun H6 p => ?_)
          · obtain ⟨S6, hd6⟩ := p
            obtain ⟨tt, a, y, rfl, htt, rfl, ha, hy⟩ := y
            have ha : some (V.int (n : Nat)) = some a := ha
            cases ha
            have S7 : Same H6 (upd H6 tt (.tup [.int ((n : Nat) : Int), y])) := Same.fresh htt
            have ht7 : upd H6 tt (.tup [.int ((n : Nat) : Int), y]) tt = some (.tup [.int ((n : Nat) : Int), y]) := upd_same
            generalize upd H6 tt (.tup [.int ((n : Nat) : Int), y]) = H7 at S7 ht7
            have S47 := S6.trans S7
            obtain ⟨c, hc, hyc⟩ := paired_get hys4 hy
            refine rd_gtup (Tup.of ht7) rfl ?_
            walk_at "rd"
            refine ⟨rfl, ?_⟩
            walk_at "rd"
            obtain ⟨pv, rv, rfl, _, _⟩ := id hyc
            have hnin : c ∉ (sortV bs).take n := fun z => by
              obtain ⟨j, hj⟩ := List.getElem?_of_mem z
              rw [List.getElem?_take] at hj
              split at hj
              · rename_i hjn
                have h1 := (List.getElem?_eq_some_iff.mp hj).1
                have h2 := (List.getElem?_eq_some_iff.mp hc).1
                have e := (List.getElem?_inj h1 nds).mp (hj.trans hc.symm)
                omega
              · cases hj
            have ltk : ((sortV bs).take n).length = n := by
              have h2 := (List.getElem?_eq_some_iff.mp hc).1
              rw [List.length_take]; omega
            refine ⟨D, pv, _, vKey c, rfl, rfl, hd6.same S7, (hyc.same S47).key, vKey_depth _, by rw [kvS_len, ltk]; omega, fun H8 k1 k2 d8 => ?_⟩
            have ep := kvS_put hnin
            rw [ltk] at ep
            rw [ep] at d8
            refine ⟨fun a o e => k1 a o (fun z => by rw [z, hD] at e; cases e) (S47 _ _ e), ?_⟩
            rw [List.take_succ, hc]
            exact d8
          · obtain ⟨S6, hd6⟩ := p
            rw [lys, List.take_length] at hd6
            walk_at "rd"
            refine ⟨s', _, dx, _, rfl, S6 _ _ hs4, T.C_Policy, T.A_Policy__spots, by show 2 < 1000; decide, ?_⟩
            have X8 : Ex s' H (upd H6 s' (.ins T.c_Policy dx (putF "_spots" (.ref D) (putF "views" (.ref t) (putF "modes" (.int i) []))))) := (X4.trans (.same S6)).trans .upd
            have sn8 : Sn H6 (upd H6 s' (.ins T.c_Policy dx (putF "_spots" (.ref D) (putF "views" (.ref t) (putF "modes" (.int i) []))))) := (Ex.upd (s := s')).sn (S6 _ _ hs4)
            walk_at "rd"
            exact hgood bs q1 q2 _ X8 ⟨dx, t, D, ys, upd_same, tup_sn (ht4.same S6) sn8, paired_mono hys4 fun _ _ z => (z.same S6).mono fun _ _ t => tup_sn t sn8, dn_sn hd6 sn8⟩
theorem G_Policy_eq : FnOk P w K mg base CX0 1 T.f_Policy_eq T.d_Policy_eq ["self", "other"] (spEqP P w K T.c_Policy) := by
  refine T.F_Policy_eq.ok sc_Policy_eq (fun vs H Q E h => ?_) fun cdv A outer s H vs Q E hr h => ⟨_, (pss_one (ps_ret (pe_and (pe_callB (cr_isiK (K := K)) (by rfl) T.n_isinstance (by decide +kernel) (by exact (pa_cons (pv 1) (pa_cons (pe_glob (v := .ref T.c_Policy) rfl T.m_Policy rfl) pa_nil)))) (pe_and (pe_cmpR op_eq (pe_fldK (K := K) (pv 0)) (pe_fldK (K := K) (pv 1)) (nomark _)) (pe_one (pe_cmpR (op_eqDK (K := K) hr.units) (pe_fldK (K := K) (pv 0)) (pe_fldK (K := K) (pv 1)) (nomark _))))))), ?_⟩
  · obtain ⟨p, y, k, bs, rfl, _⟩ := h
    rfl
  · obtain ⟨p, y, k, bs, rfl, hB, h⟩ := h
    walk_at "rd"
    obtain ⟨dx, t, d, ys, hp, ht, hys, hd⟩ := hB
    rcases h with ⟨n, ty, kit, hQ⟩ | ⟨q, k', bs', rfl, hB', hQ⟩
    · refine ⟨_, _, _, _, false, rfl, .own _, ty, kit, ?_⟩
      walk_at "rd"
      exact hQ
    · obtain ⟨dx', t', d', ys', hp', ht', hys', hd'⟩ := hB'
      refine ⟨_, _, _, _, true, rfl, .own _, T.I_Policy.ty hp', T.I_Policy.kit, ?_⟩
      walk_at "rd"
      refine ⟨p, _, dx, _, _, rfl, hp, T.C_Policy, T.A_Policy_modes, look_pm, ?_⟩
      walk_at "rd"
      refine ⟨q, _, dx', _, _, rfl, hp', T.C_Policy, T.A_Policy_modes, look_pm, ?_⟩
      walk_at "rd"
      by_cases h1 : k = k'
      · rw [decide_eq_true h1, Bool.true_and] at hQ
        refine iteT' (by simpa using h1) ?_
        walk_at "rd"
        refine ⟨p, _, dx, _, _, rfl, hp, T.C_Policy, T.A_Policy_views, look_pv, ?_⟩
        walk_at "rd"
        refine ⟨q, _, dx', _, _, rfl, hp', T.C_Policy, T.A_Policy_views, look_pv, ?_⟩
        refine ⟨.tuple (bs.map dV), .tuple (bs'.map dV), .tup ht.sq (dp_vs hys), .tup ht'.sq (dp_vs hys'), dV_shT bs, dV_shT bs', ?_⟩
        have e2 : PyData.eqv (.tuple (bs.map dV)) (.tuple (bs'.map dV)) = decide (bs = bs') := dV_eqv bs bs'
        rw [e2]
        exact hQ
      · rw [decide_eq_false h1, Bool.false_and] at hQ
        refine iteF' (by simpa using h1) ?_
        walk_at "rd"
        exact hQ
theorem G_Policy_spot : FnOk P w K mg base CX0 7 T.f_Policy_spot T.d_Policy_spot ["self", "view"] (spSpot P w K T.c_Policy) := by
  refine T.F_Policy_spot.ok sc_Policy_spot (fun vs H Q E h => ?_) fun cdv A outer s H vs Q E hr h => ⟨_, (pss_one (ps_ret (pe_ifExp (pt_val (pe_call (G_is_view T) (hr.mono (by decide)) (by rfl) T.m_is_view T.F_is_view.kp T.b_is_view .nil pass0 (by exact (pa_cons (pv 1) pa_nil)))) (pe_nget1 (P := P) (w := w) (Room.u9 hr) (pe_fldK (K := K) (pv 0)) (pv 1) ⟨rfl, rfl, rfl, rfl⟩) pe_non))), ?_⟩
  · obtain ⟨s, x, k, ws, o, rfl, _⟩ := h
    rfl
  · obtain ⟨s', x, k, ws, o, rfl, hB, hx, hQ⟩ := h
    walk_at "rd"
    refine ⟨_, _, rfl, hx, fun H1 S1 => ?_⟩
    obtain ⟨dx, t, d, ys, hp, ht, hys, hd⟩ := hB.same S1
    walk_at "rd"
    cases o with
    | none =>
      refine rd_iF ?_
      walk_at "rd"
      exact hQ H1 S1
    | some c =>
      refine rd_iT ?_
      obtain ⟨pv, rv, rfl, h1, h2⟩ := id (hx.same S1).v
      refine rd_nget1 ?_
      walk_at "rd"
      refine ⟨s', _, dx, _, _, rfl, hp, T.C_Policy, T.A_Policy__spots, look_ps, d, _, rfl, hd, ?_⟩
      walk_at "rd"
      exact ⟨pv, _, vKey c, rfl, hd, (hx.same S1).v.key, vKey_depth _, hQ H1 S1⟩
end
end K03

namespace K03
open PySem PySem.Spec PyProof.Rows L2 KX
local macro_rules | `(tactic| walk_at "rd1") => `(tactic| first
  | with_reducible refine rd_seq ?_
  | with_reducible refine rd_for ?_
  | with_reducible refine rd_lc ?_
  | with_reducible refine rd_asg ?_
  | ((with_reducible refine' rd_var ?rdv ?_); (case rdv => exact rfl))
  | with_reducible refine rd_c ?_
  | with_reducible refine rd_op ?_
  | with_reducible refine rd_un ?_
  | with_reducible refine rd_cons ?_
  | with_reducible refine rd_nil ?_
  | with_reducible refine rd_call ?_
  | with_reducible refine rd_cb ?_
  | with_reducible refine rd_tB ?_
  | with_reducible refine rd_test ?_
  | with_reducible refine rd_bl ?_
  | with_reducible refine rd_rI0 ?_
  | with_reducible refine rd_eqI ?_
  | with_reducible refine rd_neI ?_
  | with_reducible refine rd_rU ?_
  | with_reducible refine rd_name ?_
  | with_reducible refine rd_ifs ?_
  | with_reducible refine rd_and ?_
  | with_reducible refine rd_or ?_
  | with_reducible refine rd_not ?_
  | with_reducible refine rd_yes ?_
  | with_reducible refine rd_andV ?_
  | with_reducible refine rd_orV ?_
  | with_reducible refine rd_notV ?_
  | with_reducible refine rd_if ?_
  | with_reducible refine rd_isN ?_
  | with_reducible refine rd_iT ?_
  | with_reducible refine rd_iF ?_
  | with_reducible refine rd_ret ?_
  | with_reducible refine rd_retN ?_
  | with_reducible refine rd_drop ?_
  | with_reducible refine rd_next ?_
  | with_reducible refine rd_cont ?_
  | with_reducible refine rd_brk ?_
  | with_reducible refine rd_nx ?_
  | with_reducible refine rd_rt ?_
  | with_reducible refine rd_ct ?_
  | with_reducible refine rd_bk ?_
  | with_reducible refine rd_par ?_
  | with_reducible refine rd_par3 ?_
  | with_reducible refine rd_par2 ?_
  | with_reducible refine rd_par33 ?_
  | with_reducible refine rd_gcons ?_
  | with_reducible refine rd_gnil ?_
  | with_reducible refine rd_sub ?_
  | with_reducible refine rd_tup ?_
  | with_reducible refine rd_lst ?_
  | ((with_reducible refine rd_tupT ?hl ?_); (case hl => exact Nat.le_of_ble_eq_true rfl))
  | ((with_reducible refine rd_lstT ?hl ?_); (case hl => exact Nat.le_of_ble_eq_true rfl))
  | with_reducible refine rd_bm ?_
  | with_reducible refine rd_bm0 ?_
  | with_reducible refine rd_sl ?_
  | with_reducible refine rd_noP ?_
  | with_reducible refine rd_part ?_
  | with_reducible refine rd_int ?_
  | with_reducible refine rd_int1 ?_
  | with_reducible refine rd_fld ?_
  | with_reducible refine rd_then ?_
  | with_reducible refine rd_raise ?_
  | with_reducible refine rd_one ?_
  | with_reducible refine rd_sfld ?_
  | with_reducible refine rd_ilist ?_
  | with_reducible refine rd_itup ?_
  | with_reducible refine rd_rng1 ?_
  | with_reducible refine rd_enum ?_
  | with_reducible refine rd_enumT ?_)
local macro_rules | `(tactic| walk_at "rd") => `(tactic| repeat (walk_at "rd1"))
theorem map_some_inj : ∀ {A B : List Vw}, A.map some = B.map some → A = B
  | [], [], _ => rfl
  | [], _ :: _, h => by cases h
  | _ :: _, [], h => by cases h
  | a :: A, b :: B, h => by
    rw [List.map_cons, List.map_cons] at h
    obtain ⟨h1, h2⟩ := List.cons.inj h
    cases h1
    rw [map_some_inj h2]
theorem not_good {A bs : List Vw} {c0 : Option Vw} {R : List (Option Vw)} (h0 : ∀ d, c0 = some d → d ∈ A) (h : A.map some ++ c0 :: R = bs.map some) (nd : bs.Nodup) : False := by
  obtain ⟨b1, b2, e, e1, e2⟩ := List.map_eq_append_iff.mp h.symm
  obtain ⟨d, b3, e3, e4, _⟩ := List.map_eq_cons_iff.mp e2
  have e1 := map_some_inj e1
  subst e3
  subst e
  rw [e1] at nd
  have hd := h0 d e4.symm
  exact (List.nodup_append.mp nd).2.2 d hd d (by simp) rfl
theorem only_bad {A bs : List Vw} (nd : A.Nodup) {c0 c : Option Vw} {R : List (Option Vw)} {i : Nat} (h0 : ∀ d, c0 = some d → d ∈ A) (h1 : (A.map some ++ c0 :: R).take i = bs.map some) (h2 : bs.Nodup) (h3 : (A.map some ++ c0 :: R)[i]? = some c) (h4 : ∀ d, c = some d → d ∈ bs) : i = A.length := by
  rcases Nat.lt_trichotomy i A.length with z | z | z
  · exfalso
    rw [List.take_append_of_le_length (by rw [List.length_map]; omega), ← List.map_take] at h1
    have e := map_some_inj h1
    rw [List.getElem?_append_left (by rw [List.length_map]; exact z), List.getElem?_map, List.getElem?_eq_getElem z] at h3
    have h5 := h4 A[i] (Option.some.inj h3).symm
    rw [← e] at h5
    obtain ⟨j, hj, e2⟩ := List.getElem_of_mem h5
    rw [List.getElem_take] at e2
    rw [List.length_take] at hj
    have := (List.getElem_inj nd).mp e2
    omega
  · exact z
  · exfalso
    rw [List.take_append, List.take_of_length_le (by rw [List.length_map]; omega), List.length_map] at h1
    obtain ⟨m, hm⟩ : ∃ m, i - A.length = m + 1 := ⟨i - A.length - 1, by omega⟩
    rw [hm, List.take_succ_cons] at h1
    exact not_good h0 h1 h2
theorem okM_k {k : Int} (k1 : 1 ≤ k) (k4 : k ≤ 4) : okM (some k) = true := by
  show (decide (1 ≤ k) && decide (k ≤ 4)) = true
  rw [decide_eq_true k1, decide_eq_true k4]; rfl
section
variable {P : Program} {w : World} {K : PySem.W.Frag} {C CP CV s dx : Addr} {H : Hp} {Q : VK} {E : XK} {x z : V}
/-- modes that are none -/
theorem pol_badM {o : Option Int} (hs : H s = none) (hd : H dx = none) (k : Kin K H x o) (e : okM o = false) (hE : ErrAt CP E H 0) : spPol P w K C CP CV [.ref s, x, z] (made H C s dx) Q E :=
  ⟨s, dx, x, z, o, none, rfl, upd_same, kin_same k (made_same hs hd), fun _ => told_x hE hs hd, fun e' => by rw [e] at e'; cases e'⟩
theorem pol_badC {k : Int} (k1 : 1 ≤ k) (k4 : k ≤ 4) (hs : H s = none) (hd : H dx = none) (h : SqX K H z none) (hE : ErrAt CV E H 0) : spPol P w K C CP CV [.ref s, .int k, z] (made H C s dx) Q E :=
  ⟨s, dx, _, z, some k, none, rfl, upd_same, .int k, fun e => (by rw [okM_k k1 k4] at e; cases e), fun _ => ⟨sqx_same h (made_same hs hd), fun _ _ => ⟨fun _ => told_x hE hs hd, fun xs e => by cases e⟩⟩⟩
/-- a wrong change somewhere -/
theorem pol_badR {k : Int} {xs : List V} {A : List Vw} {c0 : Option Vw} {R : List (Option Vw)} (k1 : 1 ≤ k) (k4 : k ≤ 4) (hs : H s = none) (hd : H dx = none) (h : SqX K H z (some xs)) (lx : xs.length < 1000) (hp : Paired (VbX K H k) xs (A.map some ++ c0 :: R)) (nd : A.Nodup) (h0 : ∀ d, c0 = some d → d ∈ A) (hE : ErrAt CV E H (A.length : Nat)) :
    spPol P w K C CP CV [.ref s, .int k, z] (made H C s dx) Q E := by
  have S := made_same (C := C) hs hd
  refine ⟨s, dx, _, z, some k, some xs, rfl, upd_same, .int k, fun e => (by rw [okM_k k1 k4] at e; cases e), fun _ => ⟨sqx_same h S, fun k' ek => ⟨fun e => (by cases e), fun ys e => ?_⟩⟩⟩
  cases ek
  cases e
  refine ⟨lx, _, paired_mono hp fun _ _ z => z.same S, fun i bs c q1 q2 q3 q4 => ?_, fun bs e q => (not_good h0 e q).elim⟩
  rw [only_bad nd h0 q1 q2 q3 q4]
  exact told_x hE hs hd
/-- a book -/
theorem pol_good {k : Int} {xs : List V} {cs : List Vw} (k1 : 1 ≤ k) (k4 : k ≤ 4) (hs : H s = none) (hd : H dx = none) (h : SqX K H z (some xs)) (lx : xs.length < 1000) (hp : Paired (VbX K H k) xs (cs.map some)) (nd : cs.Nodup) (hQ : ∀ H', Same H H' → PolAt P w C H' s k (sortV cs) → Q .non H') :
    spPol P w K C CP CV [.ref s, .int k, z] (made H C s dx) Q E := by
  have S := made_same (C := C) hs hd
  refine ⟨s, dx, _, z, some k, some xs, rfl, upd_same, .int k, fun e => (by rw [okM_k k1 k4] at e; cases e), fun _ => ⟨sqx_same h S, fun k' ek => ⟨fun e => (by cases e), fun ys e => ?_⟩⟩⟩
  cases ek
  cases e
  refine ⟨lx, _, paired_mono hp fun _ _ z => z.same S, fun i bs c q1 q2 q3 q4 => ?_, fun bs e q H' X B => ?_⟩
  · exfalso
    rw [← List.map_take] at q1
    have e1 := map_some_inj q1
    rw [List.getElem?_map] at q3
    obtain ⟨d, hd, e2⟩ := Option.map_eq_some_iff.mp q3
    have h5 := q4 d e2.symm
    rw [← e1] at h5
    obtain ⟨j, hj, e3⟩ := List.getElem_of_mem h5
    rw [List.getElem_take] at e3
    rw [List.length_take] at hj
    obtain ⟨hi, e4⟩ := List.getElem?_eq_some_iff.mp hd
    have := (List.getElem_inj nd).mp (e3.trans e4.symm)
    omega
  · have ec := map_some_inj e
    subst ec
    exact hQ H' (ex_same hs hd X) B
end
theorem goodV_below {k : Int} {w : Vw} (g : GoodV k w) : belowV k w = true := belowV_iff.mpr ⟨g.m1, fun n hn => (g.r n hn).2⟩
theorem GoodV.up {k k' : Int} {w : Vw} (g : GoodV k w) (h : k ≤ k') : GoodV k' w := ⟨g.m0, by have := g.m1; omega, fun x hx => by have := g.r x hx; omega, g.l, g.s⟩
theorem VAt.vb {K : PySem.W.Frag} {H : Hp} {x : V} {w : Vw} {k : Int} (h : VAt H x w) (g : GoodV k w) (k4 : k ≤ 4) : VbX K H k x (some w) :=
  ⟨some w, h.vwx (g.up k4), by show some w = if belowV k w = true then some w else none; rw [if_pos (goodV_below g)]⟩
theorem vs_vb {K : PySem.W.Frag} {H : Hp} {k : Int} {ys : List V} {cs : List Vw} (k4 : k ≤ 4) (h : Paired (VAt H) ys cs) (g : ∀ c ∈ cs, GoodV k c) : Paired (VbX K H k) ys (cs.map some) := by
  induction h with
  | nil => exact .nil
  | @cons y c ys cs a _ ih => exact .cons (a.vb (g c List.mem_cons_self) k4) (ih fun d hd => g d (List.mem_cons_of_mem _ hd))
theorem sort_good {k : Int} {cs : List Vw} (g : ∀ c ∈ cs, GoodV k c) : ∀ c ∈ sortV cs, GoodV k c := fun c hc => g c ((sortV_perm cs).mem_iff.mp hc)
/-- the views at these places -/
def pick : Nat → List Int → List Vw → List Vw
  | _, _, [] => []
  | i, ns, w :: ws => if ((i : Nat) : Int) ∈ ns then w :: pick (i + 1) ns ws else pick (i + 1) ns ws
theorem pick_sub : ∀ (i : Nat) (ns : List Int) (ws : List Vw), (pick i ns ws).Sublist ws
  | _, _, [] => .slnil
  | i, ns, w :: ws => by
    unfold pick
    split
    · exact (pick_sub (i + 1) ns ws).cons₂ w
    · exact (pick_sub (i + 1) ns ws).cons w
theorem pick_snoc : ∀ (i : Nat) (ns : List Int) (ws : List Vw) (w : Vw), pick i ns (ws ++ [w]) = pick i ns ws ++ (if ((i + ws.length : Nat) : Int) ∈ ns then [w] else [])
  | i, ns, [], w => by
    show pick i ns [w] = _
    unfold pick
    show (if ((i : Nat) : Int) ∈ ns then w :: pick (i + 1) ns [] else pick (i + 1) ns []) = _
    rfl
  | i, ns, v :: ws, w => by
    show (if ((i : Nat) : Int) ∈ ns then v :: pick (i + 1) ns (ws ++ [w]) else pick (i + 1) ns (ws ++ [w])) = (if ((i : Nat) : Int) ∈ ns then v :: pick (i + 1) ns ws else pick (i + 1) ns ws) ++ _
    rw [pick_snoc (i + 1) ns ws w]
    have e : i + 1 + ws.length = i + (v :: ws).length := by rw [List.length_cons]; omega
    rw [e]
    by_cases c : ((i : Nat) : Int) ∈ ns
    · rw [if_pos c, if_pos c]; rfl
    · rw [if_neg c, if_neg c]
def spCSc (P : Program) (w : World) (K : PySem.W.Frag) (C CS : Addr) : L2.Sp := fun vs H Q E => ∃ (s : Addr) (k : Int) (ws : List Vw) (x : V) (o : Option (List V)), vs = [.ref s, x] ∧ PolAt P w C H s k ws ∧ SqX K H x o ∧ (o = none → ErrAt CS E H (ws.length : Nat)) ∧
  ∀ xs, o = some xs → xs.length < 1000000 ∧ ∃ os : List (Option Int), Paired (Kin K H) xs os ∧
    (∀ i : Nat, os[i]? = some none → (∀ j, j < i → ∃ m, os[j]? = some (some m)) → ErrAt CS E H i) ∧
    (∀ ns : List Int, os = ns.map some → (ns.length ≠ ws.length → ErrAt CS E H (ws.length : Nat)) ∧ (ns.length = ws.length → ∀ H' t, Same H H' → Tup H' t (ns.map V.int) → Q (.ref t) H'))
def spPart (P : Program) (w : World) (K : PySem.W.Frag) (C CQ : Addr) : L2.Sp := fun vs H Q E => ∃ (s : Addr) (k : Int) (ws : List Vw) (x : V) (o : Option (List V)), vs = [.ref s, x] ∧ PolAt P w C H s k ws ∧ 1 ≤ k ∧ k ≤ 4 ∧ (∀ w ∈ ws, GoodV k w) ∧ ws.Nodup ∧ ws.length < 1000 ∧ SqX K H x o ∧ (o = none → ErrAt CQ E H 0) ∧
  ∀ xs, o = some xs → xs.length < 1000 ∧ ∃ os : List (Option Int), Paired (Kin K H) xs os ∧
    (∀ (i : Nat) (m : Option Int), os[i]? = some m → belB m ws.length = false → (∀ j, j < i → ∃ m, os[j]? = some (some m) ∧ belB (some m) ws.length = true) → ErrAt CQ E H i) ∧
    (∀ ns : List Int, os = ns.map some → (∀ n ∈ ns, 0 ≤ n ∧ n < ws.length) → ∀ H' s', Same H H' → PolAt P w C H' s' k (sortV (pick 0 ns ws)) → Q (.ref s') H')
section
variable {P : Program} {w : World} {K : PySem.W.Frag} {mg : Str → Option Value} {base : Heap} (T : TX K mg)
theorem G_checked_scores : FnOk P w K mg base (L2.CX P w) 3 T.f_checked_scores T.d_checked_scores ["policy", "scores"] (spCSc P w K T.c_Policy T.c_InvalidScore) := by
  refine T.F_checked_scores.okX sc_checked_scores (fun vs H Q E h => ?_) fun cdv A outer s H vs Q E hr h => ⟨_, (pss_one (ps_ret (pe_call (G_checked_integers T) (hr.mono (by decide)) (by rfl) T.m_checked_integers T.F_checked_integers.kp T.b_checked_integers .nil (passes_call (takes_of rfl rfl rfl rfl) fun _ _ _ _ z => z) (by exact (pa_cons (pv 1) (pa_cons (pe_callB (cr_lenK (K := K)) (by rfl) T.n_len (by decide +kernel) (by exact (pa_cons (pe_fldK (K := K) (pv 0)) pa_nil))) pa_nil)))))), ?_⟩
  · obtain ⟨s, k, ws, x, o, rfl, _⟩ := h
    rfl
  · obtain ⟨s', k, ws, x, o, rfl, hB, hx, hE, hM⟩ := h
    obtain ⟨dx, t, d, ys, hp, ht, hys, hd⟩ := hB
    have ly := paired_len hys
    walk_at "rd"
    refine ⟨s', _, dx, _, _, rfl, hp, T.C_Policy, T.A_Policy_views, look_pv, ?_⟩
    walk_at "rd"
    refine rd_lenTup ht ?_
    walk_at "rd"
    refine ⟨x, ws.length, o, by rw [ly]; rfl, hx, hE, hM⟩
theorem G_part : FnOk P w K mg base (L2.CX P w) 11 T.f_part T.d_part ["policy", "places"] (spPart P w K T.c_Policy T.c_InvalidQuestion) := by
  refine T.F_part.okX sc_part (fun vs H Q E h => ?_) fun cdv A outer s H vs Q E hr h => ⟨_, (pss_cons (ps_if (pt_not (pt_val (pe_call (G_is_sequence T) (hr.mono (by decide)) (by rfl) T.m_is_sequence T.F_is_sequence.kp T.b_is_sequence .nil pass0 (by exact (pa_cons (pv 1) pa_nil))))) (pss_one (ps_raiseErrZ rfl T.E_InvalidQuestion hr (takes_of rfl rfl rfl rfl) (by exact (pa_cons pe_int pa_nil)))) pss_nil) (pss_cons (ps_for (passes_of rfl) rfl (PI.or (pi_enumK (K := K) (by rfl) T.n_enumerate (by exact (pa_cons (pv 1) pa_nil))) (pi_enumTK (K := K) (by rfl) T.n_enumerate (by exact (pa_cons (pv 1) pa_nil)))) (pg_tupK (K := K) (n := 2) (by rfl) (pgs_cons (pg_name (i := 2) sc_part.nd rfl (.inl rfl)) (pgs_cons (pg_name (i := 3) sc_part.nd rfl (.inl rfl)) pgs_nil))) (pss_one (ps_if (pt_not (pt_val (pe_call (G_is_below T) (hr.mono (by decide)) (by rfl) T.m_is_below T.F_is_below.kp T.b_is_below .nil pass0 (by exact (pa_cons (pv 3) (pa_cons (pe_callB (cr_lenK (K := K)) (by rfl) T.n_len (by decide +kernel) (by exact (pa_cons (pe_fldK (K := K) (pv 0)) pa_nil))) pa_nil)))))) (pss_one (ps_raiseErrZ rfl T.E_InvalidQuestion hr (takes_of rfl rfl rfl rfl) (by exact (pa_cons (pv 2) pa_nil)))) pss_nil))) (pss_one (ps_ret (pe_make T.M_Policy (G_Policy_init T) (hr.mono (by decide)) (by rfl) T.m_Policy T.b_Policy_init .nil (passes_call (takes_of rfl rfl rfl rfl) fun _ _ _ _ z => z) (by exact (pa_cons (pe_fldK (K := K) (pv 0)) (pa_cons (by exact (pe_lc (own := [("at", 2), ("view", 4)]) (by rfl) sc_part.nd (pi_enumTK (K := K) (by rfl) T.n_enumerate (by exact (pa_cons (pe_fldK (K := K) (pv 0)) pa_nil))) (blkOk_by (own := [("at", 2), ("view", 4)]) (N := N_part) (sc := defScope s_part) (by decide +kernel)) (fun _ _ _ _ _ => (pg_tupK (K := K) (n := 2) (by rfl) (pgs_cons (pg_name (i := 2) sc_part.nd rfl (.inl rfl)) (pgs_cons (pg_name (i := 4) sc_part.nd rfl (.inl rfl)) pgs_nil)))) (fun _ _ _ _ _ => pts_one (pt_cmpR (op_inK (K := K)) (pv 2) (pv 1) (by rfl))) (fun _ _ _ _ _ => (pv 4)) )) pa_nil)))))))), ?_⟩
  · obtain ⟨s, k, ws, x, o, rfl, _⟩ := h
    rfl
  · obtain ⟨s', k, ws, x, o, rfl, hB, k1, k4, gw, nw, lw, hx, hE, hM⟩ := h
    walk_at "rd"
    refine ⟨_, _, rfl, hx, fun H1 S1 => ?_⟩
    have hx1 := sqx_same hx S1
    obtain ⟨dx, t, d, ys, hp, ht, hys, hd⟩ := hB
    have ly := paired_len hys
    walk_at "rd"
    cases o with
    | none =>
      refine rd_iT ?_
      walk_at "rd"
      exact fun d hd => hE rfl H1 d S1 hd
    | some xs =>
      refine rd_iF ?_
      walk_at "rd"
      obtain ⟨lx, os, hos, hbad, hgood⟩ := hM xs rfl
      have lo := paired_len hos
      obtain ⟨b, hb⟩ := hx1.b
      obtain ⟨a, rfl, hs⟩ := hx1.any
      refine for_enumX (b := b) hb (fun R r => rd_cons (rd_var rfl (rd_nil r))) (fun i σ H3 => Same H H3 ∧ SqB H3 (.ref a) xs b ∧ (∃ o1 o2 o3, σ = [some (.ref s'), some (.ref a), o1, o2, o3]) ∧ ∀ j, j < i → ∃ m, os[j]? = some (some m) ∧ belB (some m) ws.length = true)
        ⟨S1, hb, ⟨_, _, _, rfl⟩, fun j z => absurd z (Nat.not_lt_zero _)⟩ (fun i σ H3 p => p.2.1) (fun i y σ H3 t4 H4 hy p ht4 S4 et => ?_) (fun σ H3 p => ?_)
      · obtain ⟨S3, hb3, ⟨o1, o2, o3, rfl⟩, hm⟩ := p
        refine rd_gtup (Tup.of et) rfl ?_
        obtain ⟨oy, ho, hy'⟩ := paired_get hos hy
        have S34 := S3.trans S4
        walk_at "rd"
        refine ⟨s', _, dx, _, _, rfl, S34 _ _ hp, T.C_Policy, T.A_Policy_views, look_pv, ?_⟩
        walk_at "rd"
        refine rd_lenTup (ht.same S34) ?_
        walk_at "rd"
        refine ⟨_, _, _, rfl, kin_same hy' S34, ?_⟩
        rw [ly]
        walk_at "rd"
        cases eb : belB oy ws.length with
        | false =>
          refine iteT' rfl ?_
          walk_at "rd"
          exact fun e he => hbad i oy ho eb hm H4 e S34 he
        | true =>
          refine iteF' rfl ?_
          walk_at "rd"
          refine ⟨S34, hb3.same S4, ⟨_, _, _, rfl⟩, fun j hj => ?_⟩
          by_cases e : j = i
          · rw [e]
            cases oy with
            | none => cases eb
            | some m => exact ⟨m, ho, eb⟩
          · exact hm j (by omega)
      · obtain ⟨S3, hb3, ⟨o1, o2, o3, rfl⟩, hm⟩ := p
        obtain ⟨ns, rfl⟩ : ∃ ns : List Int, os = ns.map some := by
          refine ⟨os.map fun o => o.getD 0, List.ext_getElem? fun j => ?_⟩
          rw [List.getElem?_map, List.getElem?_map]
          by_cases hj : j < os.length
          · obtain ⟨m, hm, _⟩ := hm j (by omega)
            rw [hm]; rfl
          · rw [List.getElem?_eq_none (by omega)]; rfl
        have hok := hgood ns rfl fun n hn => by
          obtain ⟨j, hj⟩ := List.getElem?_of_mem hn
          rw [List.length_map] at lo
          have hj2 := (List.getElem?_eq_some_iff.mp hj).1
          obtain ⟨m, h1, h2⟩ := hm j (by omega)
          rw [List.getElem?_map, hj] at h1
          obtain rfl := Option.some.inj (Option.some.inj h1)
          exact belB_iff.mp h2
        have exs : xs = ns.map V.int := by
          clear hgood hbad hM hb hb3 hx1 hs hok hm lo lx hx hE
          have gen : ∀ (xs : List V) (ns : List Int), Paired (Kin K H) xs (ns.map some) → xs = ns.map V.int := by
            intro xs ns
            induction ns generalizing xs with
            | nil => intro h; cases h; rfl
            | cons m ns ih =>
              intro h
              cases h with
              | cons h1 h2 =>
                cases h1
                rw [ih _ h2]; rfl
          exact gen xs ns hos
        walk_at "rd"
        refine rd_make ?_
        walk_at "rd"
        refine ⟨s', _, dx, _, _, rfl, S3 _ _ hp, T.C_Policy, T.A_Policy_modes, look_pm, ?_⟩
        walk_at "rd"
        refine ⟨s', _, dx, _, _, rfl, S3 _ _ hp, T.C_Policy, T.A_Policy_views, look_pv, ?_⟩
        walk_at "rd"
        refine ⟨t, ys, rfl, (ht.same S3).sq, fun D hD => ?_⟩
        have hDH : H D = none := S3.free hD
        have hysH : Paired (VAt H3) ys ws := paired_mono hys fun _ _ z => z.same S3
        refine it_wk (walk_enumT (K := K) (xs := ys)) (fun n H' => Same H3 H' ∧ ∃ zs, H' D = some (.lst zs) ∧ Paired (VAt H3) zs (pick 0 ns (ws.take n)) ∧ zs.length ≤ n) ⟨Same.fresh hD, [], upd_same, .nil, Nat.le_refl _⟩ (fun n H' _ p => ((ht.same S3).same p.1).sq) (fun n v H6 H7 hn p y => ?_) (fun H6 p => ?_)
        · obtain ⟨S6, zs, hzs, pz, lz⟩ := p
          obtain ⟨tt, a2, y, rfl, htt, rfl, ha2, hy⟩ := y
          have ha2 : some (V.int (n : Nat)) = some a2 := ha2
          cases ha2
          have S7 : Same H6 (upd H6 tt (.tup [.int ((n : Nat) : Int), y])) := Same.fresh htt
          have ht7 : upd H6 tt (.tup [.int ((n : Nat) : Int), y]) tt = some (.tup [.int ((n : Nat) : Int), y]) := upd_same
          generalize upd H6 tt (.tup [.int ((n : Nat) : Int), y]) = H7 at S7 ht7
          have S47 := S6.trans S7
          obtain ⟨c, hc, hyc⟩ := paired_get hysH hy
          have ltk : (ws.take n).length = n := by
            have h2 := (List.getElem?_eq_some_iff.mp hc).1
            rw [List.length_take]; omega
          refine rd_gtup (Tup.of ht7) rfl ?_
          walk_at "rd"
          refine ⟨rfl, ?_⟩
          walk_at "rd"
          have hb7 := ((hb3.same S6).same S7).x (K := K)
          obtain ⟨a3, ea, hs7⟩ := hb7.any
          cases ea
          rw [exs] at hs7
          refine rd_inI hs7 ?_
          walk_at "rd"
          have sn := pick_snoc 0 ns (ws.take n) c
          rw [ltk, Nat.zero_add] at sn
          by_cases hin : ((n : Nat) : Int) ∈ ns
          · refine iteT' (decide_eq_true hin) ?_
            walk_at "rd"
            rw [if_pos hin] at sn
            refine ⟨zs, S7 _ _ hzs, Nat.lt_of_le_of_lt (by omega : zs.length ≤ 1000) (by decide), same_put S47 hD, zs ++ [y], upd_same, ?_, by rw [List.length_append]; simp; omega⟩
            rw [List.take_succ, hc]
            show Paired _ _ (pick 0 ns (ws.take n ++ [c]))
            rw [sn]
            exact Paired.snoc pz hyc
          · refine iteF' (decide_eq_false hin) ?_
            rw [if_neg hin, List.append_nil] at sn
            refine ⟨S47, zs, S7 _ _ hzs, ?_, by omega⟩
            rw [List.take_succ, hc]
            show Paired _ _ (pick 0 ns (ws.take n ++ [c]))
            rw [sn]
            exact pz
        · obtain ⟨S6, zs, hzs, pz, lz⟩ := p
          rw [ly, List.take_length] at pz
          walk_at "rd"
          intro s1 dx1 hs1 hd1 _
          have gp : ∀ c ∈ pick 0 ns ws, GoodV k c := fun c hc => gw c ((pick_sub 0 ns ws).mem hc)
          refine pol_good k1 k4 hs1 hd1 (.lst hzs) (by omega) (vs_vb k4 (paired_mono pz fun _ _ z => z.same S6) gp) (nw.sublist (pick_sub 0 ns ws)) fun H8 S8 B8 => ⟨rfl, ?_⟩
          exact hok H8 s1 ((S3.trans S6).trans S8) B8
end
end K03

namespace K03
open PySem PySem.Spec PyProof.Rows L2 KX
local macro_rules | `(tactic| walk_at "rd1") => `(tactic| first
  | with_reducible refine rd_seq ?_
  | with_reducible refine rd_for ?_
  | with_reducible refine rd_lc ?_
  | with_reducible refine rd_asg ?_
  | ((with_reducible refine' rd_var ?rdv ?_); (case rdv => exact rfl))
  | with_reducible refine rd_c ?_
  | with_reducible refine rd_op ?_
  | with_reducible refine rd_un ?_
  | with_reducible refine rd_cons ?_
  | with_reducible refine rd_nil ?_
  | with_reducible refine rd_call ?_
  | with_reducible refine rd_cb ?_
  | with_reducible refine rd_tB ?_
  | with_reducible refine rd_test ?_
  | with_reducible refine rd_bl ?_
  | with_reducible refine rd_rI0 ?_
  | with_reducible refine rd_eqI ?_
  | with_reducible refine rd_neI ?_
  | with_reducible refine rd_rU ?_
  | with_reducible refine rd_name ?_
  | with_reducible refine rd_ifs ?_
  | with_reducible refine rd_and ?_
  | with_reducible refine rd_or ?_
  | with_reducible refine rd_not ?_
  | with_reducible refine rd_yes ?_
  | with_reducible refine rd_andV ?_
  | with_reducible refine rd_orV ?_
  | with_reducible refine rd_notV ?_
  | with_reducible refine rd_if ?_
  | with_reducible refine rd_isN ?_
  | with_reducible refine rd_iT ?_
  | with_reducible refine rd_iF ?_
  | with_reducible refine rd_ret ?_
  | with_reducible refine rd_retN ?_
  | with_reducible refine rd_drop ?_
  | with_reducible refine rd_next ?_
  | with_reducible refine rd_cont ?_
  | with_reducible refine rd_brk ?_
  | with_reducible refine rd_nx ?_
  | with_reducible refine rd_rt ?_
  | with_reducible refine rd_ct ?_
  | with_reducible refine rd_bk ?_
  | with_reducible refine rd_par ?_
  | with_reducible refine rd_par3 ?_
  | with_reducible refine rd_par2 ?_
  | with_reducible refine rd_par33 ?_
  | with_reducible refine rd_gcons ?_
  | with_reducible refine rd_gnil ?_
  | with_reducible refine rd_sub ?_
  | with_reducible refine rd_tup ?_
  | with_reducible refine rd_lst ?_
  | ((with_reducible refine rd_tupT ?hl ?_); (case hl => exact Nat.le_of_ble_eq_true rfl))
  | ((with_reducible refine rd_lstT ?hl ?_); (case hl => exact Nat.le_of_ble_eq_true rfl))
  | with_reducible refine rd_bm ?_
  | with_reducible refine rd_bm0 ?_
  | with_reducible refine rd_sl ?_
  | with_reducible refine rd_noP ?_
  | with_reducible refine rd_part ?_
  | with_reducible refine rd_int ?_
  | with_reducible refine rd_int1 ?_
  | with_reducible refine rd_fld ?_
  | with_reducible refine rd_then ?_
  | with_reducible refine rd_raise ?_
  | with_reducible refine rd_one ?_
  | with_reducible refine rd_sfld ?_
  | with_reducible refine rd_ilist ?_
  | with_reducible refine rd_itup ?_
  | with_reducible refine rd_rng1 ?_
  | with_reducible refine rd_enum ?_
  | with_reducible refine rd_enumT ?_)
local macro_rules | `(tactic| walk_at "rd") => `(tactic| repeat (walk_at "rd1"))
/-- whole numbers and views -/
abbrev Itm := Int ⊕ Vw
def ItAt (H : Hp) (x : V) : Itm → Prop
  | .inl n => x = .int n
  | .inr w => VAt H x w
def dI : Itm → PyData
  | .inl n => .int n
  | .inr w => dV w
theorem ItAt.mono {H H' : Hp} {x : V} {i : Itm} (h : ItAt H x i) (s : ∀ a xs, Tup H a xs → Tup H' a xs) : ItAt H' x i := by
  cases i with
  | inl n => exact h
  | inr w => exact VAt.mono h s
theorem ItAt.same {H H' : Hp} {x : V} {i : Itm} (h : ItAt H x i) (s : Same H H') : ItAt H' x i := h.mono fun _ _ t => t.same s
theorem ItAt.fix {H H' : Hp} {p q : Addr} {x : V} {i : Itm} (h : ItAt H x i) (d : Deal H p q) (f : Fix p q H H') : ItAt H' x i := h.mono fun _ _ t => tup_fix f d t
theorem VAt.fix {H H' : Hp} {p q : Addr} {x : V} {c : Vw} (h : VAt H x c) (d : Deal H p q) (f : Fix p q H H') : VAt H' x c := h.mono fun _ _ t => tup_fix f d t
theorem tup_upd {H : Hp} {l a : Addr} {us xs : List V} {o : HO} (h : Tup H a xs) (hl : H l = some (.lst us)) : Tup (L2.upd H l o) a xs := by
  rcases h with t | ⟨o, t⟩
  · exact .inl (by rw [upd_ne (fun e => by rw [e, hl] at t; cases t)]; exact t)
  · exact .inr ⟨o, by rw [upd_ne (fun e => by rw [e, hl] at t; cases t)]; exact t⟩
theorem ItAt.upd {H : Hp} {l : Addr} {us : List V} {o : HO} {x : V} {i : Itm} (h : ItAt H x i) (hl : H l = some (.lst us)) : ItAt (L2.upd H l o) x i := h.mono fun _ _ t => tup_upd t hl
theorem VAt.upd {H : Hp} {l : Addr} {us : List V} {o : HO} {x : V} {c : Vw} (h : VAt H x c) (hl : H l = some (.lst us)) : VAt (L2.upd H l o) x c := h.mono fun _ _ t => tup_upd t hl
theorem ItAt.dp {K : PySem.W.Frag} {H : Hp} {x : V} {i : Itm} (h : ItAt H x i) : Dp K H x (dI i) := by
  cases i with
  | inl n => obtain rfl : x = .int n := h; exact .int n
  | inr w => exact VAt.dp h
theorem its_dp {K : PySem.W.Frag} {H : Hp} {xs : List V} {is : List Itm} (h : Paired (ItAt H) xs is) : DpAll K H xs (is.map dI) := by
  induction h with
  | nil => exact .nil
  | cons a _ ih => exact .cons a.dp ih
theorem dI_lay : ∀ xs : List Itm, PyData.canLayAll0 (xs.map dI) = true
  | [] => rfl
  | .inl n :: xs => by
    show (PyData.canLay0 (.int n) && PyData.canLayAll0 (xs.map dI)) = true
    rw [dI_lay xs]; rfl
  | .inr w :: xs => by
    show (PyData.canLay0 (dV w) && PyData.canLayAll0 (xs.map dI)) = true
    rw [dI_lay xs, dV_lay1]; rfl
theorem dI_dep : ∀ xs : List Itm, PyData.depthAll (xs.map dI) ≤ 3
  | [] => Nat.zero_le 3
  | .inl n :: xs => by
    have h := dI_dep xs
    show max (PyData.depth (.int n)) (PyData.depthAll (xs.map dI)) ≤ 3
    have : PyData.depth (.int n) = 0 := rfl
    omega
  | .inr w :: xs => by
    have h := dI_dep xs
    have h1 := dep_v w
    show max (PyData.depth (dV w)) (PyData.depthAll (xs.map dI)) ≤ 3
    omega
theorem dI_sh (xs : List Itm) : SeqAt.shaped (.list (xs.map dI)) = true := by
  have h := dI_dep xs
  have h1 : PyData.depth (.list (xs.map dI)) = PyData.depthAll (xs.map dI) + 1 := rfl
  unfold SeqAt.shaped
  have h2 : PyData.canLay0 (.list (xs.map dI)) = PyData.canLayAll0 (xs.map dI) := rfl
  rw [h2, dI_lay, h1, Bool.true_and]
  exact decide_eq_true (by omega)
theorem dI_nil (xs : List Itm) : PyData.eqv (.list (xs.map dI)) (.list ([] : List PyData)) = decide (xs = []) := by cases xs <;> rfl
theorem paired_erase {α β : Type} {F : α → β → Prop} {l : List α} {m : List β} (h : Paired F l m) : ∀ i, Paired F (l.eraseIdx i) (m.eraseIdx i) := by
  induction h with
  | nil => intro i; exact .nil
  | cons a t ih => intro i; cases i with
    | zero => exact t
    | succ i => exact .cons a (ih i)
theorem paired_app {α β : Type} {F : α → β → Prop} {l l' : List α} {m m' : List β} (h : Paired F l m) (h' : Paired F l' m') : Paired F (l ++ l') (m ++ m') := by
  induction h with
  | nil => exact h'
  | cons a _ ih => exact .cons a ih
theorem paired_rev {α β : Type} {F : α → β → Prop} {l : List α} {m : List β} (h : Paired F l m) : Paired F l.reverse m.reverse := by
  induction h with
  | nil => exact .nil
  | cons a _ ih =>
    rw [List.reverse_cons, List.reverse_cons]
    exact paired_app ih (.cons a .nil)
theorem paired_tk {α β : Type} {F : α → β → Prop} {l : List α} {m : List β} (h : Paired F l m) : ∀ i, Paired F (l.take i) (m.take i) := by
  induction h with
  | nil => intro i; rw [List.take_nil, List.take_nil]; exact .nil
  | cons a _ ih => intro i; cases i with
    | zero => exact .nil
    | succ i => exact .cons a (ih i)
theorem paired_dp {α β : Type} {F : α → β → Prop} {l : List α} {m : List β} (h : Paired F l m) : ∀ i, Paired F (l.drop i) (m.drop i) := by
  induction h with
  | nil => intro i; rw [List.drop_nil, List.drop_nil]; exact .nil
  | cons a t ih => intro i; cases i with
    | zero => exact .cons a t
    | succ i => exact ih i
theorem erase_perm' {α : Type} (l : List α) (i : Nat) (x : α) (h : l[i]? = some x) : ([x] ++ l.eraseIdx i).Perm l := by
  induction l generalizing i with
  | nil => simp at h
  | cons a l ih =>
    cases i with
    | zero =>
      obtain rfl : a = x := by simpa using h
      exact List.Perm.refl _
    | succ i =>
      have z := ih i (by simpa using h)
      exact (List.Perm.swap a x _).trans (z.cons a)
def prV : Itm → Option Vw
  | .inl _ => none
  | .inr w => some w
def prI : Itm → Option Int
  | .inl n => some n
  | .inr _ => none
theorem prV_map : ∀ ws : List Vw, (ws.map Sum.inr).filterMap prV = ws
  | [] => rfl
  | w :: ws => by rw [List.map_cons, List.filterMap_cons_some (f := prV) (b := w) rfl, prV_map ws]
theorem prI_map : ∀ ns : List Int, (ns.map Sum.inl).filterMap prI = ns
  | [] => rfl
  | n :: ns => by rw [List.map_cons, List.filterMap_cons_some (f := prI) (b := n) rfl, prI_map ns]
theorem all_inr : ∀ {is : List Itm}, (∀ i ∈ is, ∃ w : Vw, i = .inr w) → is = (is.filterMap prV).map Sum.inr
  | [], _ => rfl
  | i :: is, h => by
    obtain ⟨w, rfl⟩ := h i List.mem_cons_self
    rw [List.filterMap_cons_some (f := prV) (b := w) rfl, List.map_cons, ← all_inr fun j hj => h j (List.mem_cons_of_mem _ hj)]
theorem all_inl : ∀ {is : List Itm}, (∀ i ∈ is, ∃ n : Int, i = .inl n) → is = (is.filterMap prI).map Sum.inl
  | [], _ => rfl
  | i :: is, h => by
    obtain ⟨w, rfl⟩ := h i List.mem_cons_self
    rw [List.filterMap_cons_some (f := prI) (b := w) rfl, List.map_cons, ← all_inl fun j hj => h j (List.mem_cons_of_mem _ hj)]
/-- of a turned row of views, of a turned row of numbers -/
theorem perm_inr {is : List Itm} {ws : List Vw} (h : is.Perm (ws.map Sum.inr)) : ∃ ws' : List Vw, is = ws'.map Sum.inr ∧ ws'.Perm ws :=
  ⟨is.filterMap prV, all_inr fun i hi => by
    obtain ⟨w, _, e⟩ := List.mem_map.mp (h.mem_iff.mp hi)
    exact ⟨w, e.symm⟩, by have z := h.filterMap prV; rwa [prV_map] at z⟩
theorem perm_inl {is : List Itm} {ns : List Int} (h : is.Perm (ns.map Sum.inl)) : ∃ ns' : List Int, is = ns'.map Sum.inl ∧ ns'.Perm ns :=
  ⟨is.filterMap prI, all_inl fun i hi => by
    obtain ⟨w, _, e⟩ := List.mem_map.mp (h.mem_iff.mp hi)
    exact ⟨w, e.symm⟩, by have z := h.filterMap prI; rwa [prI_map] at z⟩
theorem its_v {H : Hp} {xs : List V} {ws : List Vw} (h : Paired (VAt H) xs ws) : Paired (ItAt H) xs (ws.map Sum.inr) := by
  induction h with
  | nil => exact .nil
  | cons a _ ih => exact .cons a ih
theorem v_its {H : Hp} : ∀ {ws : List Vw} {xs : List V}, Paired (ItAt H) xs (ws.map Sum.inr) → Paired (VAt H) xs ws
  | [], _, h => by cases h; exact .nil
  | w :: ws, _, h => by
    cases h with
    | cons a t => exact .cons a (v_its t)
theorem its_i {H : Hp} : ∀ ns : List Int, Paired (ItAt H) (ns.map V.int) (ns.map Sum.inl)
  | [] => .nil
  | n :: ns => .cons rfl (its_i ns)
theorem i_its {H : Hp} : ∀ {ns : List Int} {xs : List V}, Paired (ItAt H) xs (ns.map Sum.inl) → xs = ns.map V.int
  | [], _, h => by cases h; rfl
  | w :: ws, _, h => by
    cases h with
    | @cons x _ _ _ a t =>
      obtain rfl : x = .int w := a
      rw [i_its t]; rfl
def spMixed : L2.Sp := fun vs H Q _ => ∃ (p q a : Addr) (xs : List V) (is : List Itm), vs = [.ref p, .ref a] ∧ Deal H p q ∧ H a = some (.lst xs) ∧ Paired (ItAt H) xs is ∧ xs.length ≤ 1000 ∧
  ∀ (H' : Hp) (l : Addr) (ys : List V) (js : List Itm), Deal H' p q → Fix p q H H' → H l = none → l ≠ p → l ≠ q → js.Perm is → Paired (ItAt H') ys js → H' l = some (.lst ys) → Q (.ref l) H'
section
variable {P : Program} {w : World} {K : PySem.W.Frag} {mg : Str → Option Value} {base : Heap} (T : TX K mg)
theorem G__law_mixed : FnOk P w K mg base CX0 2 T.f__law_mixed T.d__law_mixed ["deal", "some"] spMixed := by
  refine T.F__law_mixed.ok sc__law_mixed (fun vs H Q E h => ?_) fun cdv A outer s H vs Q E hr h => ⟨_, (pss_cons (ps_par (i := 2) (j := 3) (by rfl) sc__law_mixed.nd rfl rfl (by decide) rfl rfl (pa_cons (pe_callTy (cr_listK (K := K)) (by rfl) T.n_list (by decide +kernel) (by exact (pa_cons (pv 1) pa_nil))) (pa_cons (pe_lst pa_nil) pa_nil)) (by rfl)) (pss_cons (ps_while PassesOwn.never (pt_cmpR (op_neDK (K := K) hr.units) (pv 2) (pe_lst pa_nil) (nomark _)) (pss_one (ps_expr (pe_bmK (K := K) PySem.F.slot_list_append PySem.F.type_list_append mt_append (pv 3) (by exact (pa_cons (pe_bmK (K := K) PySem.F.slot_list_pop PySem.F.type_list_pop mt_popAt (pv 2) (by exact (pa_cons (pe_call (G__law_any T) (hr.mono (by decide)) (by rfl) T.m__law_any T.F__law_any.kp T.b__law_any .nil pass0 (by exact (pa_cons (pv 0) (pa_cons (pe_callB (cr_lenK (K := K)) (by rfl) T.n_len (by decide +kernel) (by exact (pa_cons (pv 2) pa_nil))) pa_nil)))) pa_nil))) pa_nil)))))) (pss_one (ps_ret (pv 3))))), ?_⟩
  · obtain ⟨p, q, a, xs, is, rfl, _⟩ := h
    rfl
  · obtain ⟨p, q, a, xs, is, rfl, d, ha, el, hl, hQ⟩ := h
    have lis := paired_len el
    walk_at "rd"
    refine rd_list (.inl (SqL.of ha)) ?_
    intro l H1 l0 S1 hl1
    walk_at "rd"
    intro g H2 g0 S2 hg
    walk_at "rd"
    have d1 := d.same S1
    have d2 := d1.same S2
    obtain ⟨lp, lq⟩ := d.nes l0
    obtain ⟨gp, gq⟩ := d1.nes g0
    have gl : g ≠ l := fun z => by rw [z, hl1] at g0; cases g0
    have gn : H g = none := S1.free g0
    have f2 : Fix p q H H2 := Fix.same (S1.trans S2)
    refine ⟨fun n σ H' => σ = [some (.ref p), some (.ref a), some (.ref l), some (.ref g)] ∧ Deal H' p q ∧ Fix p q H H' ∧ ∃ (ls fs : List V) (li fi : List Itm), H' l = some (.lst ls) ∧ H' g = some (.lst fs) ∧ (fi ++ li).Perm is ∧ Paired (ItAt H') ls li ∧ Paired (ItAt H') fs fi ∧ n = ls.length,
      ⟨_, rfl, d2, f2, xs, [], is, [], S2 _ _ hl1, hg, by simp, paired_mono el fun _ _ z => z.same (S1.trans S2), .nil, rfl⟩, ?_⟩
    rintro n σ H' ⟨rfl, d', f', ls, fs, li, fi, hls, hfs, perm, el', ef', rfl⟩
    have lli := paired_len el'
    have lfi := paired_len ef'
    have len : fs.length + ls.length = xs.length := by rw [lli, lfi, lis, ← perm.length_eq, List.length_append]
    walk_at "rd"
    intro e H3 e0 S3 he
    have hls3 := S3 _ _ hls
    have hfs3 := S3 _ _ hfs
    have el3 : Paired (ItAt H3) ls li := paired_mono el' fun _ _ z => z.same S3
    have ef3 : Paired (ItAt H3) fs fi := paired_mono ef' fun _ _ z => z.same S3
    have d3 := d'.same S3
    have f3 : Fix p q H H3 := f'.trans (Fix.same S3)
    refine ⟨_, _, .lst (SqL.of hls3) (its_dp el3), .lst (ds := []) (SqL.of he) .nil, dI_sh li, by decide, _, rfl, ?_⟩
    rw [dI_nil]
    by_cases h0 : li = []
    · subst h0
      refine iteF' (by simp) ?_
      walk_at "rd"
      exact hQ H3 g fs fi d3 f3 gn gp gq (by simpa using perm) ef3 hfs3
    · have nz : (!decide (li = [])) = true := by simp [h0]
      have pos : 0 < ls.length := by rw [lli]; exact List.length_pos_iff.mpr h0
      refine iteT' nz ⟨fun σ' H'' => σ' = [some (.ref p), some (.ref a), some (.ref l), some (.ref g)] ∧ Deal H'' p q ∧ Fix p q H H'' ∧ ∃ (ls' fs : List V) (li' fi : List Itm), H'' l = some (.lst ls') ∧ H'' g = some (.lst fs) ∧ (fi ++ li').Perm is ∧ Paired (ItAt H'') ls' li' ∧ Paired (ItAt H'') fs fi ∧ ls'.length < ls.length,
        fun σ' H'' ⟨e1, e2, e3, ls', fs', li', fi', e4, e5, e6, e6', e6'', e7⟩ => ⟨ls'.length, e7, e1, e2, e3, ls', fs', li', fi', e4, e5, e6, e6', e6'', rfl⟩, ?_⟩
      walk_at "rd"
      refine rd_ty hfs3 ?_
      walk_at "rd"
      refine rd_ty hls3 ?_
      walk_at "rd"
      refine rd_len hls3 ?_
      walk_at "rd"
      refine ⟨p, q, _, rfl, d3, by omega, by omega, fun H4 i d4 f4 i0 i1 => ?_⟩
      have hls4 := f4 _ _ lp lq hls3
      have hfs4 := f4 _ _ gp gq hfs3
      have el4 : Paired (ItAt H4) ls li := paired_mono el3 fun _ _ z => z.fix d3 f4
      have ef4 : Paired (ItAt H4) fs fi := paired_mono ef3 fun _ _ z => z.fix d3 f4
      have hi : i.toNat < ls.length := by omega
      refine ⟨l, ls, i, i.toNat, ls[i.toNat], rfl, rfl, hls4, by omega, by omega, seqIx i0 i1, List.getElem?_eq_getElem hi, ?_⟩
      have hg5 : upd H4 l (.lst (ls.eraseIdx i.toNat)) g = some (.lst fs) := by rw [upd_ne gl]; exact hfs4
      walk_at "rd"
      refine rd_app hg5 (by omega) ?_
      walk_at "rd"
      obtain ⟨it, hit, eit⟩ := paired_get el4 (List.getElem?_eq_getElem hi)
      have up : ∀ {y : V} {c : Itm}, ItAt H4 y c → ItAt (upd (upd H4 l (.lst (ls.eraseIdx i.toNat))) g (.lst (fs ++ [ls[i.toNat]]))) y c := fun h => (h.upd hls4).upd hg5
      refine ⟨rfl, (d4.off lp lq).off gp gq, ((f3.trans f4).upd l0).upd gn, ls.eraseIdx i.toNat, fs ++ [ls[i.toNat]], li.eraseIdx i.toNat, fi ++ [it], ?_, upd_same, ?_, paired_mono (paired_erase el4 i.toNat) fun _ _ z => up z, Paired.snoc (paired_mono ef4 fun _ _ z => up z) (up eit), ?_⟩
      · rw [upd_ne (Ne.symm gl), upd_same]
      · refine List.Perm.trans ?_ perm
        rw [List.append_assoc]
        exact List.Perm.append_left fi (erase_perm' li i.toNat it hit)
      · rw [List.length_eraseIdx, if_pos hi]; omega
end
end K03

namespace K03
open PySem PySem.Spec PyProof.Rows L2 KX
local macro_rules | `(tactic| walk_at "rd1") => `(tactic| first
  | with_reducible refine rd_seq ?_
  | with_reducible refine rd_for ?_
  | with_reducible refine rd_lc ?_
  | with_reducible refine rd_asg ?_
  | ((with_reducible refine' rd_var ?rdv ?_); (case rdv => exact rfl))
  | with_reducible refine rd_c ?_
  | with_reducible refine rd_op ?_
  | with_reducible refine rd_un ?_
  | with_reducible refine rd_cons ?_
  | with_reducible refine rd_nil ?_
  | with_reducible refine rd_call ?_
  | with_reducible refine rd_cb ?_
  | with_reducible refine rd_tB ?_
  | with_reducible refine rd_test ?_
  | with_reducible refine rd_bl ?_
  | with_reducible refine rd_rI0 ?_
  | with_reducible refine rd_eqI ?_
  | with_reducible refine rd_neI ?_
  | with_reducible refine rd_rU ?_
  | with_reducible refine rd_name ?_
  | with_reducible refine rd_ifs ?_
  | with_reducible refine rd_and ?_
  | with_reducible refine rd_or ?_
  | with_reducible refine rd_not ?_
  | with_reducible refine rd_yes ?_
  | with_reducible refine rd_andV ?_
  | with_reducible refine rd_orV ?_
  | with_reducible refine rd_notV ?_
  | with_reducible refine rd_if ?_
  | with_reducible refine rd_isN ?_
  | with_reducible refine rd_iT ?_
  | with_reducible refine rd_iF ?_
  | with_reducible refine rd_ret ?_
  | with_reducible refine rd_retN ?_
  | with_reducible refine rd_drop ?_
  | with_reducible refine rd_next ?_
  | with_reducible refine rd_cont ?_
  | with_reducible refine rd_brk ?_
  | with_reducible refine rd_nx ?_
  | with_reducible refine rd_rt ?_
  | with_reducible refine rd_ct ?_
  | with_reducible refine rd_bk ?_
  | with_reducible refine rd_par ?_
  | with_reducible refine rd_par3 ?_
  | with_reducible refine rd_par2 ?_
  | with_reducible refine rd_par33 ?_
  | with_reducible refine rd_gcons ?_
  | with_reducible refine rd_gnil ?_
  | with_reducible refine rd_sub ?_
  | with_reducible refine rd_tup ?_
  | with_reducible refine rd_lst ?_
  | ((with_reducible refine rd_tupT ?hl ?_); (case hl => exact Nat.le_of_ble_eq_true rfl))
  | ((with_reducible refine rd_lstT ?hl ?_); (case hl => exact Nat.le_of_ble_eq_true rfl))
  | with_reducible refine rd_bm ?_
  | with_reducible refine rd_bm0 ?_
  | with_reducible refine rd_sl ?_
  | with_reducible refine rd_noP ?_
  | with_reducible refine rd_part ?_
  | with_reducible refine rd_int ?_
  | with_reducible refine rd_int1 ?_
  | with_reducible refine rd_fld ?_
  | with_reducible refine rd_then ?_
  | with_reducible refine rd_raise ?_
  | with_reducible refine rd_one ?_
  | with_reducible refine rd_sfld ?_
  | with_reducible refine rd_ilist ?_
  | with_reducible refine rd_itup ?_
  | with_reducible refine rd_rng1 ?_
  | with_reducible refine rd_enum ?_
  | with_reducible refine rd_enumT ?_)
local macro_rules | `(tactic| walk_at "rd") => `(tactic| repeat (walk_at "rd1"))
def spOther : L2.Sp := fun vs H Q _ => ∃ (p q : Addr) (k : Int) (dg : V), vs = [.ref p, .int k, dg] ∧ (dg = .non ∨ ∃ n : Nat, dg = .int (n : Nat) ∧ n ≤ 4) ∧ Deal H p q ∧ 1 ≤ k ∧ k ≤ 4 ∧ ∀ H' v w, Deal H' p q → Fix p q H H' → ViewAt H' v w → GoodV k w → Q (.ref v) H'
section
variable {P : Program} {w : World} {K : PySem.W.Frag} {mg : Str → Option Value} {base : Heap} (T : TX K mg)
theorem G__law_other : FnOk P w K mg base CX0 2 T.f__law_other T.d__law_other ["deal", "kinds", "degree"] spOther := by
  refine T.F__law_other.ok sc__law_other (fun vs H Q E h => ?_) fun cdv A outer s H vs Q E hr h => ⟨_, (pss_cons (ps_set (i := 3) sc__law_other.nd rfl (.inl rfl) (pe_ifExp (pt_cmp (pc_isN (pv 2))) (pe_call (G__law_any T) (hr.mono (by decide)) (by rfl) T.m__law_any T.F__law_any.kp T.b__law_any .nil pass0 (by exact (pa_cons (pv 0) (pa_cons pe_int pa_nil)))) (pv 2))) (pss_one (ps_ret (pe_tup (pa_cons (pe_call (G__law_any T) (hr.mono (by decide)) (by rfl) T.m__law_any T.F__law_any.kp T.b__law_any .nil pass0 (by exact (pa_cons (pv 0) (pa_cons (pv 1) pa_nil)))) (pa_cons (pe_tupleK (K := K) (by rfl) T.n_tuple (pe_callB (cr_sortedK (K := K)) (by rfl) T.n_sorted (by decide +kernel) (by exact (pa_cons (by exact (pe_lc (own := [("turn", 4)]) (by rfl) sc__law_other.nd (pi_range1 (by rfl) T.n_range (by exact (pa_cons (pv 3) pa_nil))) (blkOk_by (own := [("turn", 4)]) (N := N__law_other) (sc := defScope s__law_other) (by decide +kernel)) (fun _ _ _ _ _ => (pg_name (i := 4) sc__law_other.nd rfl (.inl rfl))) (fun _ _ _ _ _ => pts_nil) (fun _ _ _ _ _ => (pe_call (G__law_any T) (hr.mono (by decide)) (by rfl) T.m__law_any T.F__law_any.kp T.b__law_any .nil pass0 (by exact (pa_cons (pv 0) (pa_cons (pv 1) pa_nil))))) )) pa_nil)))) pa_nil)))))), ?_⟩
  · obtain ⟨p, q, k, dg, rfl, _⟩ := h
    rfl
  · obtain ⟨p, q, k, dg, rfl, hdg, d, k1, k4, hQ⟩ := h
    walk_at "rd"
    refine tif_rest (fun x H' => ∃ n : Nat, x = .int (n : Nat) ∧ n ≤ 4 ∧ Deal H' p q ∧ Fix p q H H') (fun x H1 => ?_) (fun _ Q' hQ' => ?_) (fun b1 Q' hQ' => ?_)
    rotate_left
    · walk_at "rd"
      refine ⟨p, q, 5, rfl, d, by omega, by omega, fun H1 u d1 f1 u0 u1 => ?_⟩
      obtain ⟨n, rfl⟩ := Int.eq_ofNat_of_zero_le u0
      exact hQ' _ _ ⟨n, rfl, by omega, d1, f1⟩
    · walk_at "rd"
      rcases hdg with rfl | ⟨n, rfl, hn⟩
      · cases b1
      · exact hQ' _ _ ⟨n, rfl, hn, d, Fix.refl _ _ _⟩
    rintro ⟨n, rfl, n4, d1, f1⟩
    walk_at "rd"
    refine ⟨p, q, k, rfl, d1, by omega, by omega, fun H2 m d2 f2 a0 a1 => ?_⟩
    walk_at "rd"
    refine ⟨by omega, by omega, fun D hD => ?_⟩
    obtain ⟨d4, Dp, Dq⟩ := d2.new (o := .lst []) hD
    refine lc_range (lo := 0) (n := n) (fun i H' => Deal H' p q ∧ Fix p q H2 H' ∧ ∃ row : List Int, H' D = some (.lst (row.map V.int)) ∧ row.length = i ∧ ∀ m ∈ row, 0 ≤ m ∧ m < k)
      ⟨d4, Fix.new hD, [], upd_same, rfl, by simp⟩ (fun i H' hi pv => ?_) (fun H' pv => ?_)
    · obtain ⟨d5, f5, row, hrow, lrow, brow⟩ := pv
      walk_at "rd"
      refine ⟨rfl, ?_⟩
      walk_at "rd"
      refine ⟨p, q, k, rfl, d5, by omega, by omega, fun H6 j d6 f6 j0 jk => ?_⟩
      refine ⟨_, f6 _ _ Dp Dq hrow, ?_, d6.off Dp Dq, (f5.trans f6).upd hD, row ++ [j], ?_, by simp [lrow], fun m hm => ?_⟩
      · rw [List.length_map]
        exact Nat.lt_of_le_of_lt (by omega : row.length ≤ 100) (by decide)
      · rw [upd_same]; simp
      · rcases List.mem_append.mp hm with z | z
        · exact brow m z
        · rw [List.mem_singleton.mp z]; omega
    · obtain ⟨d5, f5, row, hrow, lrow, brow⟩ := pv
      walk_at "rd"
      refine rd_sorted hrow (by omega) fun ns pm srt => ?_
      intro u H6 u0 S6 hu
      walk_at "rd"
      refine rd_tupL hu ?_
      intro r H7 r0 S7 hr7
      walk_at "rd"
      intro v H8 v0 S8 hv
      have S58 := (S6.trans S7).trans S8
      have ln := pm.length_eq
      exact hQ H8 v (m, ns) (d5.same S58) (f1.trans (f2.trans (f5.trans (Fix.same S58)))) ⟨r, hv, S8 _ _ hr7⟩ ⟨a0, a1, fun x hx => brow x (pm.mem_iff.mp hx), by show ns.length ≤ 4; omega, srt⟩
end
end K03

namespace K03
open PySem PySem.Spec PyProof.Rows L2 KX
local macro_rules | `(tactic| walk_at "rd1") => `(tactic| first
  | with_reducible refine rd_seq ?_
  | with_reducible refine rd_for ?_
  | with_reducible refine rd_lc ?_
  | with_reducible refine rd_asg ?_
  | ((with_reducible refine' rd_var ?rdv ?_); (case rdv => exact rfl))
  | with_reducible refine rd_c ?_
  | with_reducible refine rd_op ?_
  | with_reducible refine rd_un ?_
  | with_reducible refine rd_cons ?_
  | with_reducible refine rd_nil ?_
  | with_reducible refine rd_call ?_
  | with_reducible refine rd_cb ?_
  | with_reducible refine rd_tB ?_
  | with_reducible refine rd_test ?_
  | with_reducible refine rd_bl ?_
  | with_reducible refine rd_rI0 ?_
  | with_reducible refine rd_eqI ?_
  | with_reducible refine rd_neI ?_
  | with_reducible refine rd_rU ?_
  | with_reducible refine rd_name ?_
  | with_reducible refine rd_ifs ?_
  | with_reducible refine rd_and ?_
  | with_reducible refine rd_or ?_
  | with_reducible refine rd_not ?_
  | with_reducible refine rd_yes ?_
  | with_reducible refine rd_andV ?_
  | with_reducible refine rd_orV ?_
  | with_reducible refine rd_notV ?_
  | with_reducible refine rd_if ?_
  | with_reducible refine rd_isN ?_
  | with_reducible refine rd_iT ?_
  | with_reducible refine rd_iF ?_
  | with_reducible refine rd_ret ?_
  | with_reducible refine rd_retN ?_
  | with_reducible refine rd_drop ?_
  | with_reducible refine rd_next ?_
  | with_reducible refine rd_cont ?_
  | with_reducible refine rd_brk ?_
  | with_reducible refine rd_nx ?_
  | with_reducible refine rd_rt ?_
  | with_reducible refine rd_ct ?_
  | with_reducible refine rd_bk ?_
  | with_reducible refine rd_par ?_
  | with_reducible refine rd_par3 ?_
  | with_reducible refine rd_par2 ?_
  | with_reducible refine rd_par33 ?_
  | with_reducible refine rd_gcons ?_
  | with_reducible refine rd_gnil ?_
  | with_reducible refine rd_sub ?_
  | with_reducible refine rd_tup ?_
  | with_reducible refine rd_lst ?_
  | ((with_reducible refine rd_tupT ?hl ?_); (case hl => exact Nat.le_of_ble_eq_true rfl))
  | ((with_reducible refine rd_lstT ?hl ?_); (case hl => exact Nat.le_of_ble_eq_true rfl))
  | with_reducible refine rd_bm ?_
  | with_reducible refine rd_bm0 ?_
  | with_reducible refine rd_sl ?_
  | with_reducible refine rd_noP ?_
  | with_reducible refine rd_part ?_
  | with_reducible refine rd_int ?_
  | with_reducible refine rd_int1 ?_
  | with_reducible refine rd_fld ?_
  | with_reducible refine rd_then ?_
  | with_reducible refine rd_raise ?_
  | with_reducible refine rd_one ?_
  | with_reducible refine rd_sfld ?_
  | with_reducible refine rd_ilist ?_
  | with_reducible refine rd_itup ?_
  | with_reducible refine rd_rng1 ?_
  | with_reducible refine rd_enum ?_
  | with_reducible refine rd_enumT ?_)
local macro_rules | `(tactic| walk_at "rd") => `(tactic| repeat (walk_at "rd1"))
/-- a drawn network, as the law keeps it -/
def NtAt (p q : Addr) (H : Hp) (t : Addr) : Prop := ∃ (a l : Addr) (ms : List Int) (ps : List Addr) (L : List (Int × Int)), H t = some (.tup [.ref a, .ref l]) ∧ a ≠ p ∧ a ≠ q ∧ l ≠ p ∧ l ≠ q ∧ H a = some (.lst (ms.map V.int)) ∧ H l = some (.lst (ps.map V.ref)) ∧ Paired (PairAt H) ps L ∧ Good ms.length 4 L ∧ 0 < ms.length ∧ ms.length < 10
theorem pair_fix {H H' : Hp} {p q t : Addr} {e : Int × Int} (h : PairAt H t e) (d : Deal H p q) (f : Fix p q H H') : PairAt H' t e := f.keep d h fun _ e => nomatch e
theorem NtAt.fix {p q t : Addr} {H H' : Hp} (h : NtAt p q H t) (d : Deal H p q) (f : Fix p q H H') : NtAt p q H' t := by
  obtain ⟨a, l, ms, ps, L, h1, a1, a2, l1, l2, h2, h3, h4, g, m0, m1⟩ := h
  exact ⟨a, l, ms, ps, L, f.keep d h1 (fun _ e => nomatch e), a1, a2, l1, l2, f _ _ a1 a2 h2, f _ _ l1 l2 h3, paired_mono h4 fun _ _ z => pair_fix z d f, g, m0, m1⟩
theorem NtAt.same {p q t : Addr} {H H' : Hp} (h : NtAt p q H t) (s : Same H H') : NtAt p q H' t := by
  obtain ⟨a, l, ms, ps, L, h1, a1, a2, l1, l2, h2, h3, h4, g, m0, m1⟩ := h
  exact ⟨a, l, ms, ps, L, s _ _ h1, a1, a2, l1, l2, s _ _ h2, s _ _ h3, paired_mono h4 fun _ _ z => s _ _ z, g, m0, m1⟩
theorem good_views {k : Nat} {ms : List Int} {L : List (Int × Int)} (g : Good ms.length 4 L) (mb : ∀ m ∈ ms, 0 ≤ m ∧ m < (k : Int)) : ∀ w ∈ viewsOf ms L, GoodV k w := fun w hw => by
  unfold viewsOf at hw
  obtain ⟨i, hi, rfl⟩ := List.mem_map.mp hw
  have hi := List.mem_range.mp hi
  obtain ⟨a, b⟩ := mb _ (modeAt_mem (ms := ms) (i := ((i : Nat) : Int)) (by omega) (by omega))
  refine ⟨a, b, fun x hx => ?_, ?_, sortI_srt _⟩
  · have hx := (sortI_perm _).mem_iff.mp hx
    obtain ⟨y, hy, rfl⟩ := List.mem_map.mp hx
    obtain ⟨y0, y1⟩ := nb_rng g hy
    exact mb _ (modeAt_mem y0 y1)
  · show (sortI _).length ≤ 4
    rw [(sortI_perm _).length_eq, List.length_map]
    exact nb_deg g _
theorem ite_rest {c : Bool} {t u : TS} {D : Ends} {σ : L2.St} {H : Hp} (Mid : L2.St → Hp → Prop) (h3 : ∀ σ' H', Mid σ' H' → D.nx σ' H') (h1 : c = true → ∀ (f : L2.St → Hp → Prop) (D' : Ends), (∀ σ' H', Mid σ' H' → f σ' H') → t { D' with nx := f } σ H) (h2 : c = false → ∀ (f : L2.St → Hp → Prop) (D' : Ends), (∀ σ' H', Mid σ' H' → f σ' H') → u { D' with nx := f } σ H) : if c = true then t D σ H else u D σ H := by
  cases hc : c with
  | true => rw [if_pos rfl]; exact h1 hc D.nx D h3
  | false => rw [if_neg (by decide)]; exact h2 hc D.nx D h3
theorem atI_at {xs : List V} {i : Int} {v : V} (h0 : 0 ≤ i) (h1 : i < xs.length) (e : xs[i.toNat]? = some v) : atI xs i = some v := by
  obtain ⟨n, rfl⟩ := Int.eq_ofNat_of_zero_le h0
  exact atI_nat (by simpa using e)
theorem atI_zero (x : V) (xs : List V) : atI (x :: xs) 0 = some x := atI_at (by decide) (by simp) rfl
/-- a list of views, not the deal's -/
def VL (p q : Addr) (H : Hp) (l : Addr) (ws : List Vw) : Prop := l ≠ p ∧ l ≠ q ∧ ∃ xs, H l = some (.lst xs) ∧ Paired (VAt H) xs ws
theorem VL.fix {p q l : Addr} {H H' : Hp} {ws : List Vw} (h : VL p q H l ws) (d : Deal H p q) (f : Fix p q H H') : VL p q H' l ws := by
  obtain ⟨a, b, xs, h1, h2⟩ := h
  exact ⟨a, b, xs, f _ _ a b h1, paired_mono h2 fun _ _ z => z.fix d f⟩
theorem VL.same {p q l : Addr} {H H' : Hp} {ws : List Vw} (h : VL p q H l ws) (s : Same H H') : VL p q H' l ws := by
  obtain ⟨a, b, xs, h1, h2⟩ := h
  exact ⟨a, b, xs, s _ _ h1, paired_mono h2 fun _ _ z => z.same s⟩
theorem VL.upd {p q l m : Addr} {H : Hp} {ws : List Vw} {us : List V} {o : HO} (h : VL p q H l ws) (ne : l ≠ m) (hm : H m = some (.lst us)) : VL p q (L2.upd H m o) l ws := by
  obtain ⟨a, b, xs, h1, h2⟩ := h
  exact ⟨a, b, xs, by rw [upd_ne ne]; exact h1, paired_mono h2 fun _ _ z => z.upd hm⟩
theorem NtAt.upd {p q t m : Addr} {H : Hp} {us : List V} {o : HO} (h : NtAt p q H t) (hm : H m = some (.lst us)) (hx : ∀ a l, H t = some (.tup [.ref a, .ref l]) → a ≠ m ∧ l ≠ m) : NtAt p q (L2.upd H m o) t := by
  obtain ⟨a, l, ms, ps, L, h1, a1, a2, l1, l2, h2, h3, h4, g, m0, m1⟩ := h
  obtain ⟨x1, x2⟩ := hx a l h1
  refine ⟨a, l, ms, ps, L, by rw [upd_ne (fun e => by rw [e, hm] at h1; cases h1)]; exact h1, a1, a2, l1, l2, by rw [upd_ne x1]; exact h2, by rw [upd_ne x2]; exact h3, paired_mono h4 fun x _ z => ?_, g, m0, m1⟩
  have z : H x = _ := z
  show L2.upd H m o x = _
  rw [upd_ne (fun e => by rw [e, hm] at z; cases z)]
  exact z
def spPolicy : L2.Sp := fun vs H Q _ => ∃ (p q : Addr), vs = [.ref p] ∧ Deal H p q ∧ ∀ (H' : Hp) (t vl nl : Addr) (k : Nat) (vs : List V) (ws : List Vw), Deal H' p q → Fix p q H H' → H' t = some (.tup [.int (k : Nat), .ref vl, .ref nl]) → 1 ≤ k → k ≤ 4 → vl ≠ p → vl ≠ q → H vl = none →
  H' vl = some (.lst vs) → Paired (VAt H') vs ws → (ws.Pairwise fun a b => leV a b = true) → ws.Nodup → (∀ w ∈ ws, GoodV k w) → ws.length ≤ 20 → Q (.ref t) H'
section
variable {P : Program} {w : World} {K : PySem.W.Frag} {mg : Str → Option Value} {base : Heap} (T : TX K mg)
theorem G__law_policy : FnOk P w K mg base CX0 4 T.f__law_policy T.d__law_policy ["deal"] spPolicy := by
  refine T.F__law_policy.ok sc__law_policy (fun vs H Q E h => ?_) fun cdv A outer s H vs Q E hr h => ⟨_, (pss_cons (ps_asg (pe_tup (pa_cons (pe_call (G__law_of T) (hr.mono (by decide)) (by rfl) T.m__law_of T.F__law_of.kp T.b__law_of .nil pass0 (by exact (pa_cons (pv 0) (pa_cons (pe_lst (pa_cons pe_int (pa_cons pe_int (pa_cons pe_int (pa_cons pe_int (pa_cons pe_int (pa_cons pe_int (pa_cons pe_int (pa_cons pe_int pa_nil))))))))) pa_nil)))) (pa_cons (pe_lst pa_nil) (pa_cons (pe_lst pa_nil) pa_nil)))) (pg_tupK (K := K) (n := 3) (by rfl) (pgs_cons (pg_name (i := 1) sc__law_policy.nd rfl (.inr rfl)) (pgs_cons (pg_name (i := 2) sc__law_policy.nd rfl (.inl rfl)) (pgs_cons (pg_name (i := 3) sc__law_policy.nd rfl (.inr rfl)) pgs_nil))))) (pss_cons (ps_for PassesOwn.never rfl (pi_range1 (by rfl) T.n_range (by exact (pa_cons (pe_op op_add pe_int (pe_call (G__law_any T) (hr.mono (by decide)) (by rfl) T.m__law_any T.F__law_any.kp T.b__law_any .nil pass0 (by exact (pa_cons (pv 0) (pa_cons pe_int pa_nil))))) pa_nil))) (pg_name (i := 4) sc__law_policy.nd rfl (.inl rfl)) (pss_cons (ps_expr (pe_bmK (K := K) PySem.F.slot_list_append PySem.F.type_list_append mt_append (pv 2) (by exact (pa_cons (pe_call (G__law_network T) (hr.mono (by decide)) (by rfl) T.m__law_network T.F__law_network.kp T.b__law_network .nil pass0 (by exact (pa_cons (pv 0) (pa_cons (pv 1) (pa_cons (pe_call (G__law_of T) (hr.mono (by decide)) (by rfl) T.m__law_of T.F__law_of.kp T.b__law_of .nil pass0 (by exact (pa_cons (pv 0) (pa_cons (pe_slice (sl_listK (K := K)) (pe_lst (pa_cons pe_int (pa_cons pe_int (pa_cons pe_int (pa_cons pe_int (pa_cons pe_int (pa_cons pe_int (pa_cons pe_int (pa_cons pe_int pa_nil))))))))) po_none (po_some (pe_ifExp (pt_cmpR op_gt (pv 1) pe_int (nomark _)) pe_int pe_int))) pa_nil)))) pa_nil))))) pa_nil)))) (pss_one (ps_set (i := 3) sc__law_policy.nd rfl (.inr rfl) (pe_op op_cat (pv 3) (by exact (pe_lc (own := [("view", 6)]) (by rfl) sc__law_policy.nd (pi_listK (K := K) (pe_call (G__law_views T) (hr.mono (by decide)) (by rfl) T.m__law_views T.F__law_views.kp T.b__law_views .nil pass0 (by exact (pa_cons (pe_ix (ix_tupK (K := K)) (pe_ix (ix_listK (K := K)) (pv 2) (pe_un un_neg pe_int) (fun _ _ => rfl)) pe_int (fun _ _ => rfl)) (pa_cons (pe_ix (ix_tupK (K := K)) (pe_ix (ix_listK (K := K)) (pv 2) (pe_un un_neg pe_int) (fun _ _ => rfl)) pe_int (fun _ _ => rfl)) pa_nil))))) (blkOk_by (own := [("view", 6)]) (N := N__law_policy) (sc := defScope s__law_policy) (by decide +kernel)) (fun _ _ _ _ _ => (pg_name (i := 6) sc__law_policy.nd rfl (.inl rfl))) (fun _ _ _ _ _ => pts_nil) (fun _ _ _ _ _ => (pv 6)) ))))))) (pss_cons (ps_set (i := 5) sc__law_policy.nd rfl (.inr rfl) (pe_call (G__law_of T) (hr.mono (by decide)) (by rfl) T.m__law_of T.F__law_of.kp T.b__law_of .nil pass0 (by exact (pa_cons (pv 0) (pa_cons (pe_lst (pa_cons pe_non (pa_cons (pe_callB (cr_lenK (K := K)) (by rfl) T.n_len (by decide +kernel) (by exact (pa_cons (pe_ix (ix_tupK (K := K)) (pe_ix (ix_listK (K := K)) (pv 3) pe_int (fun _ _ => rfl)) pe_int (fun _ _ => rfl)) pa_nil))) (pa_cons (pe_callB (cr_lenK (K := K)) (by rfl) T.n_len (by decide +kernel) (by exact (pa_cons (pe_ix (ix_tupK (K := K)) (pe_ix (ix_listK (K := K)) (pv 3) pe_int (fun _ _ => rfl)) pe_int (fun _ _ => rfl)) pa_nil))) pa_nil)))) pa_nil))))) (pss_cons (ps_set (i := 3) sc__law_policy.nd rfl (.inr rfl) (pe_op op_cat (pv 3) (by exact (pe_lc (own := [("turn", 4)]) (by rfl) sc__law_policy.nd (pi_range1 (by rfl) T.n_range (by exact (pa_cons (pe_call (G__law_any T) (hr.mono (by decide)) (by rfl) T.m__law_any T.F__law_any.kp T.b__law_any .nil pass0 (by exact (pa_cons (pv 0) (pa_cons (pe_ifExp (pt_cmpR op_gt (pv 1) pe_int (nomark _)) pe_int pe_int) pa_nil)))) pa_nil))) (blkOk_by (own := [("turn", 4)]) (N := N__law_policy) (sc := defScope s__law_policy) (by decide +kernel)) (fun _ _ _ _ _ => (pg_name (i := 4) sc__law_policy.nd rfl (.inl rfl))) (fun _ _ _ _ _ => pts_nil) (fun _ _ _ _ _ => (pe_call (G__law_other T) (hr.mono (by decide)) (by rfl) T.m__law_other T.F__law_other.kp T.b__law_other .nil pass0 (by exact (pa_cons (pv 0) (pa_cons (pv 1) (pa_cons (pv 5) pa_nil)))))) )))) (pss_cons (ps_set (i := 3) sc__law_policy.nd rfl (.inr rfl) (by exact (pe_lc (own := [("at", 7), ("view", 6)]) (by rfl) sc__law_policy.nd (pi_enumK (K := K) (by rfl) T.n_enumerate (by exact (pa_cons (pv 3) pa_nil))) (blkOk_by (own := [("at", 7), ("view", 6)]) (N := N__law_policy) (sc := defScope s__law_policy) (by decide +kernel)) (fun _ _ _ _ _ => (pg_tupK (K := K) (n := 2) (by rfl) (pgs_cons (pg_name (i := 7) sc__law_policy.nd rfl (.inl rfl)) (pgs_cons (pg_name (i := 6) sc__law_policy.nd rfl (.inl rfl)) pgs_nil)))) (fun _ _ _ _ _ => pts_one (pt_cmpR (op_notInDK (K := K) (KX.Room.u65 hr)) (pv 6) (pe_slice (sl_listK (K := K)) (pv 3) po_none (po_some (pv 7))) (by rfl))) (fun _ _ _ _ _ => (pv 6)) ))) (pss_cons (ps_if (pt_cmpR op_eq (pe_call (G__law_any T) (hr.mono (by decide)) (by rfl) T.m__law_any T.F__law_any.kp T.b__law_any .nil pass0 (by exact (pa_cons (pv 0) (pa_cons pe_int pa_nil)))) pe_int (nomark _)) (pss_cons (ps_expr (pe_bmK (K := K) PySem.F.slot_list_pop PySem.F.type_list_pop mt_popAt (pv 3) (by exact (pa_cons (pe_call (G__law_any T) (hr.mono (by decide)) (by rfl) T.m__law_any T.F__law_any.kp T.b__law_any .nil pass0 (by exact (pa_cons (pv 0) (pa_cons (pe_callB (cr_lenK (K := K)) (by rfl) T.n_len (by decide +kernel) (by exact (pa_cons (pv 3) pa_nil))) pa_nil)))) pa_nil)))) (pss_one (ps_setLc (i := 2) (own := [("net", 8)]) (by rfl) sc__law_policy.nd rfl rfl (sw_true rfl rfl rfl (by decide +kernel)) (pi_listK (K := K) (pv 2)) (blkOk_by (own := [("net", 8)]) (N := N__law_policy) (sc := defScope s__law_policy) (by decide +kernel)) (fun _ _ _ _ _ => (pg_name (i := 8) sc__law_policy.nd rfl (.inl rfl))) (fun _ _ _ _ _ => pts_one (pt_cmpR (op_eqDK (K := K) hr.units) (by exact (pe_lc (own := [("view", 6)]) (by rfl) sc__law_policy.nd (pi_listK (K := K) (pe_call (G__law_views T) (hr.mono (by decide)) (by rfl) T.m__law_views T.F__law_views.kp T.b__law_views .nil pass0 (by exact (pa_cons (pe_ix (ix_tupK (K := K)) (pv 8) pe_int (fun _ _ => rfl)) (pa_cons (pe_ix (ix_tupK (K := K)) (pv 8) pe_int (fun _ _ => rfl)) pa_nil))))) (blkOk_by (own := [("view", 6)]) (N := N__law_policy) (sc := ({ kind := PySem.ScopeKind.function, names := [(PySem.Str.ofString ".0", PySem.NameKind.local), (PySem.Str.ofString "net", PySem.NameKind.local), (PySem.Str.ofString "_law_views", PySem.NameKind.globalImplicit), (PySem.Str.ofString "views", PySem.NameKind.cell)], isGenerator := false, isCoroutine := false, more := [] } : PySem.Scope)) (by decide +kernel)) (fun _ _ _ _ _ => (pg_name (i := 6) sc__law_policy.nd rfl (.inl rfl))) (fun _ _ _ _ _ => pts_one (pt_cmpR (op_notInDK (K := K) (KX.Room.u65 hr)) (pv 6) (pv 3) (by rfl))) (fun _ _ _ _ _ => (pv 6)) )) (pe_lst pa_nil) (nomark _))) (fun _ _ _ _ _ => (pv 8)) ))) pss_nil) (pss_one (ps_ret (pe_tup (pa_cons (pv 1) (pa_cons (pe_callB (cr_sortedDK (K := K) (Room.u64 hr)) (by rfl) T.n_sorted (by decide +kernel) (by exact (pa_cons (pv 3) pa_nil))) (pa_cons (pv 2) pa_nil)))))))))))), ?_⟩
  · obtain ⟨p, q, rfl, _⟩ := h
    rfl
  · obtain ⟨p, q, rfl, d, hQ⟩ := h
    walk_at "rd"
    intro a1 H1 n1 S1 e1
    walk_at "rd"
    have d1 := d.same S1
    refine ⟨p, q, a1, _, rfl, d1, (d.nes n1).1, (d.nes n1).2, e1, by show 0 < 8; decide, by show 8 < 1000; decide, fun H2 x hx d2 f2 => ?_⟩
    obtain ⟨k, rfl, k1, k4⟩ : ∃ k : Nat, x = .int (k : Nat) ∧ 1 ≤ k ∧ k ≤ 4 := by
      simp only [List.mem_cons, List.not_mem_nil, or_false] at hx
      rcases hx with h | h | h | h | h | h | h | h <;> subst h
      · exact ⟨2, rfl, by decide, by decide⟩
      · exact ⟨2, rfl, by decide, by decide⟩
      · exact ⟨2, rfl, by decide, by decide⟩
      · exact ⟨3, rfl, by decide, by decide⟩
      · exact ⟨3, rfl, by decide, by decide⟩
      · exact ⟨1, rfl, by decide, by decide⟩
      · exact ⟨2, rfl, by decide, by decide⟩
      · exact ⟨4, rfl, by decide, by decide⟩
    have F2 : Fix p q H H2 := (Fix.same S1).trans f2
    clear hx e1 n1 S1 d1 f2
    walk_at "rd"
    intro nl H3 n3 S3 e3
    walk_at "rd"
    intro vl H4 n4 S4 e4
    walk_at "rd"
    intro tt H5 n5 S5 e5
    refine rd_gtup (Tup.of e5) rfl ?_
    have d3 := d2.same S3
    have d4 := d3.same S4
    have d5 := d4.same S5
    have F5 : Fix p q H H5 := F2.trans (Fix.same ((S3.trans S4).trans S5))
    obtain ⟨nlp, nlq⟩ := d2.nes n3
    obtain ⟨vlp, vlq⟩ := d3.nes n4
    have nlH : H nl = none := F2.free d2 n3
    have vlH : H vl = none := (F2.trans (Fix.same S3)).free d3 n4
    have hnl5 := (S4.trans S5) _ _ e3
    have hvl5 := S5 _ _ e4
    have nv : nl ≠ vl := fun z => by rw [z] at e3; rw [e3] at n4; cases n4
    clear F2 e5 n5 e4 n4 e3 n3 S3 S4 S5 d2 d3 d4
    walk_at "rd"
    refine ⟨p, q, 2, rfl, d5, by omega, by omega, fun H6 u d6 f6 u0 u1 => ?_⟩
    obtain ⟨n, rfl⟩ := Int.eq_ofNat_of_zero_le u0
    have hn : n < 2 := by omega
    walk_at "rd"
    rw [show (1 : Int) + ((n : Nat) : Int) = ((1 + n : Nat) : Int) by omega]
    refine ⟨by omega, by omega, ?_⟩
    refine for_range (lo := 0) (n := 1 + n) (fun i σ H' => ∃ vl ws ts, (∃ o4 o5 o6 o7 o8, σ = [some (.ref p), some (.int (k : Nat)), some (.ref nl), some (.ref vl), o4, o5, o6, o7, o8]) ∧ Deal H' p q ∧ Fix p q H H' ∧ H vl = none ∧ nl ≠ vl ∧ VL p q H' vl ws ∧ (∀ w ∈ ws, GoodV k w) ∧ ws.length ≤ 7 * i ∧ (0 < i → 0 < ws.length) ∧
        H' nl = some (.lst (ts.map V.ref)) ∧ (∀ t ∈ ts, NtAt p q H' t ∧ ∀ a l, H' t = some (.tup [.ref a, .ref l]) → a ≠ nl ∧ l ≠ nl) ∧ ts.length ≤ i)
      ⟨vl, [], [], ⟨_, _, _, _, _, rfl⟩, d6, F5.trans f6, vlH, nv, ⟨vlp, vlq, [], f6 _ _ vlp vlq hvl5, .nil⟩, by simp, by simp, by simp, f6 _ _ nlp nlq hnl5, by simp, by simp⟩ (fun i σ H7 hi pv => ?_) (fun σ H7 pv => ?_)
    · obtain ⟨vl, ws, ts, ⟨o4, o5, o6, o7, o8, rfl⟩, d7, f7, vlH, nv, hv, gw, lw, _, hnl, hts, lts⟩ := pv
      clear hnl5 hvl5 d5 d6 f6 F5
      walk_at "rd"
      refine rd_ty hnl ?_
      walk_at "rd"
      intro a8 H8 n8 S8 e8
      walk_at "rd"
      have d8 := d7.same S8
      obtain ⟨a8p, a8q⟩ := d7.nes n8
      refine tif_rest (fun x H' => ∃ m : Nat, x = .int (m : Nat) ∧ (m = 6 ∨ m = 8) ∧ H' = H8) (fun x H' => ?_) (fun _ Q' hQ' => ?_) (fun _ Q' hQ' => ?_)
      rotate_left
      · walk_at "rd"
        exact hQ' _ _ ⟨6, rfl, .inl rfl, rfl⟩
      · walk_at "rd"
        exact hQ' _ _ ⟨8, rfl, .inr rfl, rfl⟩
      rintro ⟨m, rfl, hm, rfl⟩
      walk_at "rd"
      refine rd_slL e8 fun a9 H9 n9 S9 e9 => ?_
      have d9 := d8.same S9
      obtain ⟨a9p, a9q⟩ := d8.nes n9
      obtain ⟨xs9, ex9, lx9, hx9⟩ : ∃ xs : List V, cutV [V.int 1, V.int 2, V.int 3, V.int 4, V.int 4, V.int 5, V.int 6, V.int 7] none (some ((m : Nat) : Int)) = xs ∧ (0 < xs.length ∧ xs.length < 1000) ∧ ∀ x ∈ xs, ∃ j : Nat, x = .int (j : Nat) ∧ 1 ≤ j ∧ j ≤ 7 := by
        have all : ∀ x ∈ [V.int 1, V.int 2, V.int 3, V.int 4, V.int 4, V.int 5, V.int 6, V.int 7], ∃ j : Nat, x = V.int (j : Nat) ∧ 1 ≤ j ∧ j ≤ 7 := by
          intro x hx
          simp only [List.mem_cons, List.not_mem_nil, or_false] at hx
          rcases hx with h | h | h | h | h | h | h | h <;> subst h
          · exact ⟨1, rfl, by decide, by decide⟩
          · exact ⟨2, rfl, by decide, by decide⟩
          · exact ⟨3, rfl, by decide, by decide⟩
          · exact ⟨4, rfl, by decide, by decide⟩
          · exact ⟨4, rfl, by decide, by decide⟩
          · exact ⟨5, rfl, by decide, by decide⟩
          · exact ⟨6, rfl, by decide, by decide⟩
          · exact ⟨7, rfl, by decide, by decide⟩
        have e : cutV [V.int 1, V.int 2, V.int 3, V.int 4, V.int 4, V.int 5, V.int 6, V.int 7] none (some ((m : Nat) : Int)) = [V.int 1, V.int 2, V.int 3, V.int 4, V.int 4, V.int 5, V.int 6, V.int 7].take m := by
          rw [cut_take _ (by omega) (by rcases hm with rfl | rfl <;> decide)]; congr 1
        refine ⟨_, e, ?_, fun x hx => all x (List.mem_of_mem_take hx)⟩
        rcases hm with rfl | rfl <;> decide
      rw [ex9] at e9
      walk_at "rd"
      refine ⟨p, q, a9, xs9, rfl, d9, a9p, a9q, e9, lx9.1, lx9.2, fun H10 x hx d10 f10 => ?_⟩
      obtain ⟨j, rfl, j1, j7⟩ := hx9 x hx
      have F10 : Fix p q H7 _ := (Fix.same (S8.trans S9)).trans f10
      have f10' := f7.trans F10
      clear hx hx9 lx9 ex9 hm e9 n9 S9 S8 d9 d8 e8 n8 f10
      walk_at "rd"
      refine ⟨p, q, k, j, rfl, d10, by omega, by omega, j1, by omega, fun H11 t a l ms ps L d11 f11 ht an ln al ap aq lp lq ha lm mb hl pL g srt => ?_⟩
      have g : Good ms.length 4 L := by rw [lm]; exact g
      have lL := good_len g
      have F11 := F10.trans f11
      have hnl11 := F11 _ _ nlp nlq hnl
      have hv11 := hv.fix d7 F11
      have nt11 : NtAt p q H11 t := ⟨a, l, ms, ps, L, ht, ap, aq, lp, lq, ha, hl, pL, g, by omega, by omega⟩
      have nl10 := F10 _ _ nlp nlq hnl
      have nt11' : ∀ a' l', H11 t = some (.tup [.ref a', .ref l']) → a' ≠ nl ∧ l' ≠ nl := fun a' l' e => by
        rw [ht] at e
        cases e
        exact ⟨fun z => (by rw [z, nl10] at an; cases an), fun z => (by rw [z, nl10] at ln; cases ln)⟩
      have hts11 : ∀ t ∈ ts, NtAt p q H11 t ∧ ∀ a l, H11 t = some (.tup [.ref a, .ref l]) → a ≠ nl ∧ l ≠ nl := fun t' ht' => by
        obtain ⟨z1, z2⟩ := hts t' ht'
        refine ⟨z1.fix d7 F11, fun a' l' e => ?_⟩
        obtain ⟨a2, l2, _, _, _, h1, _⟩ := z1
        have h2 := F11.keep d7 h1 (fun _ e => nomatch e)
        rw [h2] at e
        cases e
        exact z2 _ _ h1
      walk_at "rd"
      refine rd_app hnl11 (by rw [List.length_map]; omega) ?_
      have anl := (nt11' a l ht).1
      have lnl := (nt11' a l ht).2
      have hnl12 : upd H11 nl (.lst (ts.map V.ref ++ [.ref t])) nl = some (.lst ((ts ++ [t]).map V.ref)) := by rw [upd_same]; simp
      have hv12 : VL p q (upd H11 nl (.lst (ts.map V.ref ++ [.ref t]))) vl ws := hv11.upd (Ne.symm nv) hnl11
      have ht12 : upd H11 nl (.lst (ts.map V.ref ++ [.ref t])) t = some (.tup [.ref a, .ref l]) := by rw [upd_ne (fun e => by rw [e, hnl11] at ht; cases ht)]; exact ht
      have ha12 : upd H11 nl (.lst (ts.map V.ref ++ [.ref t])) a = some (.lst (ms.map V.int)) := by rw [upd_ne anl]; exact ha
      have hl12 : upd H11 nl (.lst (ts.map V.ref ++ [.ref t])) l = some (.lst (ps.map V.ref)) := by rw [upd_ne lnl]; exact hl
      have pL12 : Paired (PairAt (upd H11 nl (.lst (ts.map V.ref ++ [.ref t])))) ps L := paired_mono pL fun x _ z => by
        have z : H11 x = _ := z
        show upd H11 nl _ x = _
        rw [upd_ne (fun e => by rw [e, hnl11] at z; cases z)]; exact z
      have d12 := d11.off (o := .lst (ts.map V.ref ++ [.ref t])) nlp nlq
      have f12 : Fix p q H (upd H11 nl (.lst (ts.map V.ref ++ [.ref t]))) := (f7.trans F11).upd nlH
      have hts12 : ∀ x ∈ ts ++ [t], NtAt p q (upd H11 nl (.lst (ts.map V.ref ++ [.ref t]))) x ∧ ∀ a l, upd H11 nl (.lst (ts.map V.ref ++ [.ref t])) x = some (.tup [.ref a, .ref l]) → a ≠ nl ∧ l ≠ nl := fun x hx => by
        have z : NtAt p q H11 x ∧ ∀ a l, H11 x = some (.tup [.ref a, .ref l]) → a ≠ nl ∧ l ≠ nl := by
          rcases List.mem_append.mp hx with h | h
          · exact hts11 x h
          · rw [List.mem_singleton.mp h]; exact ⟨nt11, nt11'⟩
        refine ⟨z.1.upd hnl11 z.2, fun a' l' e => ?_⟩
        rw [upd_ne (fun e' => by rw [e', upd_same] at e; cases e)] at e
        exact z.2 a' l' e
      generalize upd H11 nl (.lst (ts.map V.ref ++ [.ref t])) = H12 at hnl12 hv12 ht12 ha12 hl12 pL12 d12 f12 hts12 ⊢
      clear hnl11 hv11 nt11 nl10 hts11 nt11' ht ha hl pL an ln F11 F10 hts hnl hv d7 f7 d10 d11 f11 f10'
      walk_at "rd"
      refine rd_ixL hnl12 (v := .ref t) (by rw [List.map_append]; exact atI_last _ _) ?_
      walk_at "rd"
      refine rd_ixT (Tup.of ht12) rfl ?_
      walk_at "rd"
      refine rd_ixL hnl12 (v := .ref t) (by rw [List.map_append]; exact atI_last _ _) ?_
      walk_at "rd"
      refine rd_ixT (Tup.of ht12) rfl ?_
      walk_at "rd"
      have lvs : (viewsOf ms L).length = ms.length := by unfold viewsOf; simp
      refine ⟨a, l, ms, ps, L, rfl, ha12, hl12, pL12, g, by omega, by omega, fun H13 tv vs S13 tv0 htv pvv => ?_⟩
      have pva := vs_at pvv
      have lpv := paired_len pva
      walk_at "rd"
      refine ⟨tv, rfl, ⟨_, SqL.of htv⟩, fun D hD => ?_⟩
      refine lcv_list (xs := vs.map V.ref) (vs.map V.ref) htv rfl (by omega) hD (fun i x z H' hx hz S R hR => ?_) (fun H14 S14 hD14 => ?_)
      · rw [hx] at hz
        cases hz
        walk_at "rd"
        refine ⟨rfl, ?_⟩
        walk_at "rd"
        exact hR H' (Same.refl _)
      · have hv14 := (hv12.same S13).same S14
        obtain ⟨_, _, xs, hxs, pxs⟩ := id hv14
        have lxs := paired_len pxs
        have S12 := S13.trans S14
        have vl12 : H12 vl ≠ none := fun z => by
          obtain ⟨_, _, ys, hys, _⟩ := hv12
          rw [z] at hys; cases hys
        refine rd_cat hxs hD14 (by omega) ?_
        intro r H15 r0 S15 hr15
        have d14 := d12.same S12
        obtain ⟨rp, rq⟩ := d14.nes r0
        have S25 := S12.trans S15
        walk_at "rd"
        refine ⟨r, ws ++ viewsOf ms L, ts ++ [t], ⟨_, _, _, _, _, rfl⟩, d14.same S15, f12.trans (Fix.same S25), (f12.trans (Fix.same S12)).free d14 r0, fun e => ?_, ⟨rp, rq, _, hr15, ?_⟩, fun w hw => ?_, ?_, fun _ => ?_, S25 _ _ hnl12, fun x hx => ?_, ?_⟩
        · have z := S12 _ _ hnl12
          rw [e, r0] at z; cases z
        · exact paired_app (paired_mono pxs fun _ _ z => z.same S15) (paired_mono pva fun _ _ z => (z.same S14).same S15)
        · rcases List.mem_append.mp hw with h | h
          · exact gw w h
          · exact good_views g (by exact mb) w h
        · rw [List.length_append, lvs]; omega
        · rw [List.length_append, lvs]; omega
        · obtain ⟨z1, z2⟩ := hts12 x hx
          refine ⟨z1.same S25, fun a' l' e => ?_⟩
          obtain ⟨a2, l2, _, _, _, h1, _⟩ := z1
          rw [S25 _ _ h1] at e
          cases e
          exact z2 _ _ h1
        · rw [List.length_append]; simp; omega
    · obtain ⟨vl, ws, ts, ⟨o4, o5, o6, o7, o8, rfl⟩, d7, f7, vlH, nv, hv, gw, lw, w0, hnl, hts, lts⟩ := pv
      have w0 := w0 (by omega)
      clear hnl5 hvl5 d5 d6 f6 F5
      obtain ⟨vlp', vlq', xs, hxs, pxs⟩ := id hv
      obtain ⟨w0', ws', rfl⟩ : ∃ w0 ws', ws = w0 :: ws' := by
        cases ws with
        | nil => simp at w0
        | cons a b => exact ⟨a, b, rfl⟩
      obtain ⟨y0, ys', rfl, hy0⟩ : ∃ y0 ys', xs = y0 :: ys' ∧ VAt H7 y0 w0' := by
        cases pxs with
        | cons a t => exact ⟨_, _, rfl, a⟩
      obtain ⟨v0, r0, rfl, hv0, hr0⟩ := hy0
      have l0 := (gw w0' List.mem_cons_self).l
      walk_at "rd"
      refine rd_ixL hxs (v := .ref v0) (atI_zero _ _) ?_
      walk_at "rd"
      refine rd_ixT hv0 rfl ?_
      walk_at "rd"
      refine rd_lenTup hr0 ?_
      walk_at "rd"
      refine rd_ixL hxs (v := .ref v0) (atI_zero _ _) ?_
      walk_at "rd"
      refine rd_ixT hv0 rfl ?_
      walk_at "rd"
      refine rd_lenTup hr0 ?_
      rw [List.length_map]
      walk_at "rd"
      intro a8 H8 n8 S8 e8
      walk_at "rd"
      refine ⟨p, q, a8, _, rfl, d7.same S8, (d7.nes n8).1, (d7.nes n8).2, e8, by show 0 < 3; decide, by show 3 < 1000; decide, fun H9 dg hx d9 f9 => ?_⟩
      have hdg : dg = .non ∨ ∃ n : Nat, dg = .int (n : Nat) ∧ n ≤ 4 := by
        simp only [List.mem_cons, List.not_mem_nil, or_false] at hx
        rcases hx with h | h | h <;> subst h
        · exact .inl rfl
        · exact .inr ⟨_, rfl, l0⟩
        · exact .inr ⟨_, rfl, l0⟩
      have F9 : Fix p q H7 H9 := (Fix.same S8).trans f9
      have hv9 := hv.fix d7 F9
      have hnl9 := F9 _ _ nlp nlq hnl
      have hts9 : ∀ t ∈ ts, NtAt p q H9 t := fun t ht => (hts t ht).1.fix d7 F9
      have G9 := f7.trans F9
      clear hx e8 n8 S8 f9 F9 hr0 hv0 hxs pxs hv hts hnl f7 d7
      walk_at "rd"
      refine tif_rest (fun x H' => ∃ m : Nat, x = .int (m : Nat) ∧ (m = 3 ∨ m = 4) ∧ H' = H9) (fun x H' => ?_) (fun _ Q' hQ' => ?_) (fun _ Q' hQ' => ?_)
      rotate_left
      · walk_at "rd"
        exact hQ' _ _ ⟨3, rfl, .inl rfl, rfl⟩
      · walk_at "rd"
        exact hQ' _ _ ⟨4, rfl, .inr rfl, rfl⟩
      rintro ⟨m, rfl, hm, rfl⟩
      walk_at "rd"
      refine ⟨p, q, _, rfl, d9, by omega, by omega, fun H10 u d10 f10 u0 u1 => ?_⟩
      obtain ⟨c, rfl⟩ := Int.eq_ofNat_of_zero_le u0
      have hc : c < 4 := by omega
      walk_at "rd"
      refine ⟨by omega, by omega, fun D hD => ?_⟩
      obtain ⟨d11, Dp, Dq⟩ := d10.new (o := .lst []) hD
      refine lc_range (lo := 0) (n := c) (fun i H' => Deal H' p q ∧ Fix p q H10 H' ∧ ∃ us, VL p q H' D us ∧ (∀ w ∈ us, GoodV k w) ∧ us.length = i)
        ⟨d11, Fix.new hD, [], ⟨Dp, Dq, [], upd_same, .nil⟩, by simp, rfl⟩ (fun i H11 hi pv => ?_) (fun H11 pv => ?_)
      · obtain ⟨d11, f11, us, hus, gu, lu⟩ := pv
        walk_at "rd"
        refine ⟨rfl, ?_⟩
        walk_at "rd"
        refine ⟨p, q, k, dg, rfl, hdg, d11, by omega, by omega, fun H12 v w d12 f12 hvw gv => ?_⟩
        obtain ⟨_, _, zs, hzs, pzs⟩ := hus.fix d11 f12
        have lzs := paired_len pzs
        refine ⟨zs, hzs, Nat.lt_of_le_of_lt (by omega : zs.length ≤ 10) (by decide), d12.off Dp Dq, (f11.trans f12).upd hD, us ++ [w], ⟨Dp, Dq, _, upd_same, Paired.snoc (paired_mono pzs fun _ _ z => z.upd hzs) (hvw.v.upd hzs)⟩, fun w' hw' => ?_, by simp [lu]⟩
        rcases List.mem_append.mp hw' with h | h
        · exact gu w' h
        · rw [List.mem_singleton.mp h]; exact gv
      obtain ⟨d11, f11, us, ⟨_, _, zs, hzs, pzs⟩, gu, lu⟩ := pv
      have hv11 := hv9.fix d9 (f10.trans f11)
      obtain ⟨_, _, xs, hxs, pxs⟩ := id hv11
      have lxs := paired_len pxs
      have lzs := paired_len pzs
      have lw2 : (w0' :: ws').length ≤ 14 := by omega
      refine rd_cat hxs hzs (by omega) ?_
      intro r H12 r0 S12 hr12
      obtain ⟨rp, rq⟩ := d11.nes r0
      have d12 := d11.same S12
      have F12 := (f10.trans f11).trans (Fix.same S12)
      have G12 := G9.trans F12
      have pr12 : Paired (VAt H12) (xs ++ zs) ((w0' :: ws') ++ us) := paired_app (paired_mono pxs fun _ _ z => z.same S12) (paired_mono pzs fun _ _ z => z.same S12)
      obtain ⟨W, eW⟩ : ∃ W, W = (w0' :: ws') ++ us := ⟨_, rfl⟩
      have gW : ∀ w ∈ W, GoodV k w := fun w hw => by
        rw [eW] at hw
        rcases List.mem_append.mp hw with h | h
        · exact gw w h
        · exact gu w h
      have lW : 0 < W.length ∧ W.length ≤ 17 := by rw [eW, List.length_append]; omega
      rw [← eW] at pr12
      have hnl12 := F12 _ _ nlp nlq hnl9
      have hts12 : ∀ t ∈ ts, NtAt p q H12 t := fun t ht => (hts9 t ht).fix d9 F12
      generalize xs ++ zs = X at hr12 pr12
      have lX := paired_len pr12
      clear eW pxs pzs hxs hzs lxs lzs hv11 gu lu hv9 hts9 hnl9 G9 F12 f11 f10 d11 d10 d9 gw lw w0 hdg r0 S12 hD
      walk_at "rd"
      refine ⟨r, X, rfl, SqL.of hr12, fun D hD => ?_⟩
      obtain ⟨Dp, Dq⟩ := d12.nes hD
      refine it_wk (walk_enum (K := K) (xs := X)) (fun n H' => Same H12 H' ∧ ∃ zs us, H' D = some (.lst zs) ∧ Paired (VAt H12) zs us ∧ us.Nodup ∧ (∀ w, w ∈ us ↔ w ∈ W.take n) ∧ us.length ≤ n) ⟨Same.fresh hD, [], [], upd_same, .nil, .nil, by simp, Nat.le_refl _⟩ (fun n H' _ p => SqL.of (p.1 _ _ hr12)) (fun n v H13 H14 hn p y => ?_) (fun H13 p => ?_)
      · obtain ⟨S13, zs, us, hzs, pzs, nus, mus, lus⟩ := p
        obtain ⟨tt, a2, y, rfl, htt, rfl, ha2, hy⟩ := y
        have ha2 : some (V.int (n : Nat)) = some a2 := ha2
        cases ha2
        have S14 : Same H13 (upd H13 tt (.tup [.int ((n : Nat) : Int), y])) := Same.fresh htt
        have ht14 : upd H13 tt (.tup [.int ((n : Nat) : Int), y]) tt = some (.tup [.int ((n : Nat) : Int), y]) := upd_same
        generalize upd H13 tt (.tup [.int ((n : Nat) : Int), y]) = H14 at S14 ht14
        have S24 := S13.trans S14
        obtain ⟨w1, hw1, hyw⟩ := paired_get pr12 hy
        refine rd_gtup (Tup.of ht14) rfl ?_
        walk_at "rd"
        refine ⟨rfl, ?_⟩
        walk_at "rd"
        refine rd_slL (S24 _ _ hr12) fun a15 H15 n15 S15 e15 => ?_
        have ec : cutV X none (some ((n : Nat) : Int)) = X.take n := by rw [cut_take _ (by omega) (by omega)]; congr 1
        rw [ec] at e15
        have S25 := S24.trans S15
        walk_at "rd"
        refine ⟨dV w1, (W.take n).map dV, (hyw.same S25).dp, .lst (SqL.of e15) (dp_vs (paired_tk (paired_mono pr12 fun _ _ z => z.same S25) n)), dV_sh1 _, dV_shL _, ?_⟩
        rw [dV_any]
        walk_at "rd"
        by_cases hin : w1 ∈ W.take n
        · refine iteF' (by simp [hin]) ?_
          refine ⟨S25, zs, us, S15 _ _ (S14 _ _ hzs), pzs, nus, fun w => ?_, by omega⟩
          rw [mus, List.take_succ, hw1]
          constructor
          · intro h; exact List.mem_append_left _ h
          · intro h
            rcases List.mem_append.mp h with h | h
            · exact h
            · rw [show w = w1 by simpa using h]; exact hin
        · refine iteT' (by simp [hin]) ?_
          walk_at "rd"
          have lz := paired_len pzs
          refine ⟨zs, S15 _ _ (S14 _ _ hzs), Nat.lt_of_le_of_lt (by omega : zs.length ≤ 100) (by decide), same_put S25 hD, zs ++ [y], us ++ [w1], upd_same, Paired.snoc pzs hyw, ?_, fun w => ?_, by rw [List.length_append]; simp; omega⟩
          · exact List.nodup_append.mpr ⟨nus, by simp, fun x hx y hy z => hin (by rw [← mus]; rw [List.mem_singleton.mp hy] at z; rw [← z]; exact hx)⟩
          · rw [List.take_succ, hw1, List.mem_append, List.mem_append, mus]; simp
      obtain ⟨S13, zs, us, hzs, pzs, nus, mus, lus⟩ := p
      rw [lX, List.take_length] at mus
      have gus : ∀ w ∈ us, GoodV k w := fun w hw => gW w ((mus w).mp hw)
      have lu0 : 0 < us.length := by
        obtain ⟨w, hw⟩ := List.exists_mem_of_length_pos lW.1
        exact List.length_pos_of_mem ((mus w).mpr hw)
      have DH : H D = none := G12.free d12 hD
      have d13 := d12.same S13
      have G13 := G12.trans (Fix.same S13)
      have pz13 : Paired (VAt H13) zs us := paired_mono pzs fun _ _ z => z.same S13
      have hnl13 := S13 _ _ hnl12
      have hts13 : ∀ t ∈ ts, NtAt p q H13 t := fun t ht => (hts12 t ht).same S13
      have nD : nl ≠ D := fun z => by rw [z, hD] at hnl12; cases hnl12
      have ntD : ∀ t ∈ ts, ∀ a l, H13 t = some (.tup [.ref a, .ref l]) → a ≠ D ∧ l ≠ D := fun t ht a l e => by
        obtain ⟨a2, l2, _, _, _, h1, _, _, _, _, h2, h3, _⟩ := hts12 t ht
        rw [S13 _ _ h1] at e
        cases e
        exact ⟨fun z => (by rw [z, hD] at h2; cases h2), fun z => (by rw [z, hD] at h3; cases h3)⟩
      clear pzs mus hts12 hnl12 hD S13 pr12 hr12 G12 d12 gW
      have lzs := paired_len pz13
      walk_at "rd"
      refine ⟨p, q, 5, rfl, d13, by omega, by omega, fun H14 u d14 f14 u0 u1 => ?_⟩
      have hD14 := f14 _ _ Dp Dq hzs
      have pz14 : Paired (VAt H14) zs us := paired_mono pz13 fun _ _ z => z.fix d13 f14
      have hnl14 := f14 _ _ nlp nlq hnl13
      have hts14 : ∀ t ∈ ts, NtAt p q H14 t ∧ ∀ a l, H14 t = some (.tup [.ref a, .ref l]) → a ≠ D ∧ l ≠ D := fun t ht => by
        refine ⟨(hts13 t ht).fix d13 f14, fun a l e => ?_⟩
        obtain ⟨a2, l2, _, _, _, h1, _⟩ := hts13 t ht
        rw [f14.keep d13 h1 (fun _ e => nomatch e)] at e
        cases e
        exact ntD t ht _ _ h1
      have G14 := G13.trans f14
      clear hzs pz13 hnl13 hts13 ntD G13 f14 d13
      walk_at "rd"
      refine ite_rest (fun σ' H' => ∃ nl' zs' us' o6 o7 o8, σ' = [some (.ref p), some (.int (k : Nat)), some (.ref nl'), some (.ref D), o4, some dg, o6, o7, o8] ∧ Deal H' p q ∧ Fix p q H H' ∧ H' D = some (.lst zs') ∧ Paired (VAt H') zs' us' ∧ us'.Nodup ∧ (∀ w ∈ us', GoodV k w) ∧ us'.length ≤ 20) (fun σ' H' mid => ?_) (fun c1 f D' hf => ?_) (fun c1 f D' hf => ?_)
      · obtain ⟨nl', zs', us', o6, o7, o8, rfl, d', F', hzs, pzs, nus, gus, lus⟩ := mid
        walk_at "rd"
        refine ⟨Vw, dV, D, zs', us', VAt H', rfl, SqL.of hzs, pzs, fun x b h => h.dp, alike_v, tup_v, fun c => by have := dep_v c; omega, fun ys v hys hv => ?_⟩
        have S1 : Same H' (upd H' v (.lst ys)) := Same.fresh hv
        have hv1 : upd H' v (.lst ys) v = some (.lst ys) := upd_same
        obtain ⟨vp, vq⟩ := d'.nes hv
        have vH := F'.free d' hv
        generalize upd H' v (.lst ys) = H1 at S1 hv1
        walk_at "rd"
        intro t H2 t0 S2 ht
        have S12 := S1.trans S2
        have hys : Paired (VAt H') ys (sortV us') := hys
        have pm := sortV_perm us'
        exact hQ H2 t v nl' k ys (sortV us') (d'.same S12) (F'.trans (Fix.same S12)) ht k1 k4 vp vq vH (S2 _ _ hv1) (paired_mono hys fun _ _ z => z.same S12) (sortV_srt us') (pm.nodup_iff.mpr nus) (fun w hw => gus w (pm.mem_iff.mp hw)) (by rw [pm.length_eq]; exact lus)
      · walk_at "rd"
        refine rd_ty hD14 ?_
        walk_at "rd"
        refine rd_len hD14 ?_
        walk_at "rd"
        refine ⟨p, q, _, rfl, d14, by omega, by omega, fun H15 v d15 f15 v0 v1 => ?_⟩
        have hD15 := f15 _ _ Dp Dq hD14
        have pz15 : Paired (VAt H15) zs us := paired_mono pz14 fun _ _ z => z.fix d14 f15
        have hnl15 := f15 _ _ nlp nlq hnl14
        have hts15 : ∀ t ∈ ts, NtAt p q H15 t ∧ ∀ a l, H15 t = some (.tup [.ref a, .ref l]) → a ≠ D ∧ l ≠ D := fun t ht => by
          obtain ⟨z1, z2⟩ := hts14 t ht
          refine ⟨z1.fix d14 f15, fun a l e => ?_⟩
          obtain ⟨a2, l2, _, _, _, h1, _⟩ := z1
          rw [f15.keep d14 h1 (fun _ e => nomatch e)] at e
          cases e
          exact z2 _ _ h1
        have hi : v.toNat < zs.length := by omega
        refine ⟨D, zs, v, v.toNat, zs[v.toNat], rfl, rfl, hD15, by omega, by omega, seqIx v0 v1, List.getElem?_eq_getElem hi, ?_⟩
        have h16D : upd H15 D (.lst (zs.eraseIdx v.toNat)) D = some (.lst (zs.eraseIdx v.toNat)) := upd_same
        have pz16 : Paired (VAt (upd H15 D (.lst (zs.eraseIdx v.toNat)))) (zs.eraseIdx v.toNat) (us.eraseIdx v.toNat) := paired_mono (paired_erase pz15 _) fun _ _ z => z.upd hD15
        have hnl16 : upd H15 D (.lst (zs.eraseIdx v.toNat)) nl = some (.lst (ts.map V.ref)) := by rw [upd_ne nD]; exact hnl15
        have hts16 : ∀ t ∈ ts, NtAt p q (upd H15 D (.lst (zs.eraseIdx v.toNat))) t := fun t ht => (hts15 t ht).1.upd hD15 (hts15 t ht).2
        have d16 := d15.off (o := .lst (zs.eraseIdx v.toNat)) Dp Dq
        have G16 : Fix p q H (upd H15 D (.lst (zs.eraseIdx v.toNat))) := (G14.trans f15).upd DH
        have nus16 : (us.eraseIdx v.toNat).Nodup := nus.sublist (List.eraseIdx_sublist _ _)
        have gus16 : ∀ w ∈ us.eraseIdx v.toNat, GoodV k w := fun w hw => gus w (List.mem_of_mem_eraseIdx hw)
        have lus16 : (us.eraseIdx v.toNat).length ≤ 20 := by
          have := (List.eraseIdx_sublist us v.toNat).length_le
          omega
        generalize upd H15 D (.lst (zs.eraseIdx v.toNat)) = H16 at h16D pz16 hnl16 hts16 d16 G16 ⊢
        generalize us.eraseIdx v.toNat = us16 at pz16 nus16 gus16 lus16
        generalize zs.eraseIdx v.toNat = zs16 at h16D pz16 ⊢
        clear hts15 hnl15 pz15 hD15 d15 f15 hD14 pz14 hnl14 hts14 d14 G14 c1
        have lz16 := paired_len pz16
        walk_at "rd"
        refine ⟨nl, rfl, ⟨_, SqL.of hnl16⟩, fun N hN => ?_⟩
        refine lc_list (xs := ts.map V.ref) (fun i H' => Same H16 H' ∧ ∃ ys, H' N = some (.lst ys) ∧ ys.length ≤ i) ⟨Same.fresh hN, [], upd_same, Nat.le_refl _⟩ (fun i H' _ pv => SqL.of (pv.1 _ _ hnl16)) (fun i x H17 hx pv => ?_) (fun H17 pv => ?_)
        · obtain ⟨S17, ys, hys, lys⟩ := pv
          rw [List.getElem?_map] at hx
          obtain ⟨t, ht, rfl⟩ := Option.map_eq_some_iff.mp hx
          have hi2 := (List.getElem?_eq_some_iff.mp ht).1
          obtain ⟨a, l, ms, ps, L, hh, _, _, _, _, ha, hl, pL, g, m0, m1⟩ := hts16 t (List.mem_of_getElem? ht)
          have lL := good_len g
          have lvs : (viewsOf ms L).length = ms.length := by unfold viewsOf; simp
          walk_at "rd"
          refine ⟨rfl, ?_⟩
          walk_at "rd"
          refine rd_ixT (Tup.of (S17 _ _ hh)) rfl ?_
          walk_at "rd"
          refine rd_ixT (Tup.of (S17 _ _ hh)) rfl ?_
          walk_at "rd"
          refine ⟨a, l, ms, ps, L, rfl, S17 _ _ ha, S17 _ _ hl, paired_mono pL fun _ _ z => S17 _ _ z, g, by omega, by omega, fun H18 tv vs S18 tv0 htv pvv => ?_⟩
          have pva := vs_at pvv
          have lpv := paired_len pva
          have S68 := S17.trans S18
          walk_at "rd"
          refine ⟨tv, rfl, ⟨_, SqL.of htv⟩, fun M hM => ?_⟩
          refine lc_list (xs := vs.map V.ref) (fun i H' => Same H18 H' ∧ ∃ ys us, H' M = some (.lst ys) ∧ Paired (VAt H18) ys us ∧ ys.length ≤ i) ⟨Same.fresh hM, [], [], upd_same, .nil, Nat.le_refl _⟩ (fun i H' _ pv => SqL.of (pv.1 _ _ htv)) (fun i x H19 hx pv => ?_) (fun H19 pv => ?_)
          · obtain ⟨S19, ys2, us2, hys2, pys2, lys2⟩ := pv
            obtain ⟨w1, hw1, hxw⟩ := paired_get pva hx
            have hi3 := (List.getElem?_eq_some_iff.mp hx).1
            have S69 := S68.trans S19
            walk_at "rd"
            refine ⟨rfl, ?_⟩
            walk_at "rd"
            refine ⟨dV w1, us16.map dV, (hxw.same S19).dp, .lst (SqL.of (S69 _ _ h16D)) (dp_vs (paired_mono pz16 fun _ _ z => z.same S69)), dV_sh1 _, dV_shL _, ?_⟩
            rw [dV_any]
            walk_at "rd"
            by_cases hin : w1 ∈ us16
            · refine iteF' (by simp [hin]) ?_
              exact ⟨S19, ys2, us2, hys2, pys2, by omega⟩
            · refine iteT' (by simp [hin]) ?_
              walk_at "rd"
              exact ⟨ys2, hys2, Nat.lt_of_le_of_lt (by omega : ys2.length ≤ 1000) (by decide), same_put S19 hM, ys2 ++ [x], us2 ++ [w1], upd_same, Paired.snoc pys2 hxw, by rw [List.length_append]; simp; omega⟩
          · obtain ⟨S19, ys2, us2, hys2, pys2, lys2⟩ := pv
            walk_at "rd"
            intro e H20 e0 S20 he
            have S60 := (S68.trans S19).trans S20
            refine ⟨.list (us2.map dV), .list ([] : List PyData), .lst (SqL.of (S20 _ _ hys2)) (dp_vs (paired_mono pys2 fun _ _ z => (z.same S19).same S20)), .lst (ds := []) (SqL.of he) .nil, dV_shL us2, by decide, ?_⟩
            have S70 : Same H17 H20 := (S18.trans S19).trans S20
            walk_at "rd"
            obtain ⟨b, hb⟩ : ∃ b, b = PyData.eqv (.list (us2.map dV)) (.list ([] : List PyData)) := ⟨_, rfl⟩
            rw [← hb]
            cases b with
            | false =>
              refine iteF' rfl ?_
              exact ⟨S60, ys, S70 _ _ hys, by omega⟩
            | true =>
              refine iteT' rfl ?_
              walk_at "rd"
              exact ⟨ys, S70 _ _ hys, Nat.lt_of_le_of_lt (by omega : ys.length ≤ 1000) (by decide), same_put S60 hN, ys ++ [.ref t], upd_same, by rw [List.length_append]; simp; omega⟩
        · obtain ⟨S17, ys, hys, lys⟩ := pv
          walk_at "rd"
          exact hf _ _ ⟨N, zs16, us16, _, _, _, rfl, d16.same S17, G16.trans (Fix.same S17), S17 _ _ h16D, paired_mono pz16 fun _ _ z => z.same S17, nus16, gus16, lus16⟩
      · walk_at "rd"
        exact hf _ _ ⟨nl, zs, us, _, _, _, rfl, d14, G14, hD14, pz14, nus, gus, by omega⟩
end
end K03

namespace K03
open PySem PySem.Spec PyProof.Rows L2 KX LamX RZ
local macro_rules | `(tactic| walk_at "rd1") => `(tactic| first
  | with_reducible refine rd_seq ?_
  | with_reducible refine rd_for ?_
  | with_reducible refine rd_lc ?_
  | with_reducible refine rd_asg ?_
  | ((with_reducible refine' rd_var ?rdv ?_); (case rdv => exact rfl))
  | with_reducible refine rd_c ?_
  | with_reducible refine rd_op ?_
  | with_reducible refine rd_un ?_
  | with_reducible refine rd_cons ?_
  | with_reducible refine rd_nil ?_
  | with_reducible refine rd_call ?_
  | with_reducible refine rd_cb ?_
  | with_reducible refine rd_tB ?_
  | with_reducible refine rd_test ?_
  | with_reducible refine rd_bl ?_
  | with_reducible refine rd_rI0 ?_
  | with_reducible refine rd_eqI ?_
  | with_reducible refine rd_neI ?_
  | with_reducible refine rd_rU ?_
  | with_reducible refine rd_name ?_
  | with_reducible refine rd_ifs ?_
  | with_reducible refine rd_and ?_
  | with_reducible refine rd_or ?_
  | with_reducible refine rd_not ?_
  | with_reducible refine rd_yes ?_
  | with_reducible refine rd_andV ?_
  | with_reducible refine rd_orV ?_
  | with_reducible refine rd_notV ?_
  | with_reducible refine rd_if ?_
  | with_reducible refine rd_isN ?_
  | with_reducible refine rd_iT ?_
  | with_reducible refine rd_iF ?_
  | with_reducible refine rd_ret ?_
  | with_reducible refine rd_retN ?_
  | with_reducible refine rd_drop ?_
  | with_reducible refine rd_next ?_
  | with_reducible refine rd_cont ?_
  | with_reducible refine rd_brk ?_
  | with_reducible refine rd_nx ?_
  | with_reducible refine rd_rt ?_
  | with_reducible refine rd_ct ?_
  | with_reducible refine rd_bk ?_
  | with_reducible refine rd_par ?_
  | with_reducible refine rd_par3 ?_
  | with_reducible refine rd_par2 ?_
  | with_reducible refine rd_par33 ?_
  | with_reducible refine rd_gcons ?_
  | with_reducible refine rd_gnil ?_
  | with_reducible refine rd_sub ?_
  | with_reducible refine rd_tup ?_
  | with_reducible refine rd_lst ?_
  | ((with_reducible refine rd_tupT ?hl ?_); (case hl => exact Nat.le_of_ble_eq_true rfl))
  | ((with_reducible refine rd_lstT ?hl ?_); (case hl => exact Nat.le_of_ble_eq_true rfl))
  | with_reducible refine rd_bm ?_
  | with_reducible refine rd_bm0 ?_
  | with_reducible refine rd_sl ?_
  | with_reducible refine rd_noP ?_
  | with_reducible refine rd_part ?_
  | with_reducible refine rd_int ?_
  | with_reducible refine rd_int1 ?_
  | with_reducible refine rd_fld ?_
  | with_reducible refine rd_then ?_
  | with_reducible refine rd_raise ?_
  | with_reducible refine rd_one ?_
  | with_reducible refine rd_sfld ?_
  | with_reducible refine rd_ilist ?_
  | with_reducible refine rd_itup ?_
  | with_reducible refine rd_rng1 ?_
  | with_reducible refine rd_enum ?_
  | with_reducible refine rd_enumT ?_)
local macro_rules | `(tactic| walk_at "rd") => `(tactic| repeat (walk_at "rd1"))
/-! ### the def that hears -/
theorem pss_given {X : Cx} {ss : List Stmt} {t : TS} {p : Prop} {n : Nat} (hn : X.N.length = n) (h : p → PSs X ss t) : PSs X ss (fun D σ H => p ∧ (σ.length = n → t D σ H)) :=
  ⟨fun pins s σ H D I q => (h q.1).run pins s σ H D I (q.2 (I.len.trans hn))⟩
/-- what is known of the errors' classes -/
structure IsR (K : PySem.W.Frag) (CP CV CS CQ : Addr) : Prop where
  xp : XfC K CP
  xv : XfC K CV
  xs : XfC K CS
  xq : XfC K CQ
  np : PySem.W.findIn K (.ref CP) "at" = some none
  nv : PySem.W.findIn K (.ref CV) "at" = some none
  ns : PySem.W.findIn K (.ref CS) "at" = some none
  nq : PySem.W.findIn K (.ref CQ) "at" = some none
  pp : PySem.W.exmOne K (.ref CP) (.ref CP) = some true
  vp : PySem.W.exmOne K (.ref CV) (.ref CP) = some false
  vv : PySem.W.exmOne K (.ref CV) (.ref CV) = some true
  sp : PySem.W.exmOne K (.ref CS) (.ref CP) = some false
  sv : PySem.W.exmOne K (.ref CS) (.ref CV) = some false
  ss : PySem.W.exmOne K (.ref CS) (.ref CS) = some true
  qp : PySem.W.exmOne K (.ref CQ) (.ref CP) = some false
  qv : PySem.W.exmOne K (.ref CQ) (.ref CV) = some false
  qs : PySem.W.exmOne K (.ref CQ) (.ref CS) = some false
  qq : PySem.W.exmOne K (.ref CQ) (.ref CQ) = some true
/-- heard: a word and the number told go on -/
def HearR (CP CV CS CQ : Addr) (Q : VK) : XK := fun cls d H' => ∃ dd v, d = some dd ∧ H' dd = some (.xd [(("at" : Str), v)]) ∧ ((cls = .ref CP ∧ NewO H' (.tup [.str "policy", v]) Q) ∨ (cls = .ref CV ∧ NewO H' (.tup [.str "view", v]) Q) ∨ (cls = .ref CS ∧ NewO H' (.tup [.str "score", v]) Q) ∨ (cls = .ref CQ ∧ NewO H' (.tup [.str "question", v]) Q))
def TTr (CP CV CS CQ : Addr) : (XK → Hp → VK → Prop) → Hp → VK → Prop := fun tl H Q => tl (HearR CP CV CS CQ Q) H (fun _ H' => Q .non H')
def tWd (w : Str) (C a : Addr) (cls : Value) (d : Option Addr) : TS := tRet (tTup (tCons (tC (.str w)) (tCons (tXf a cls d C "at" (tVar 1)) tNil)))
theorem gives {X : Cx} {g CP CV CS CQ CN : Addr} {cdg : Value} {q : Str} (T : IsR X.K CP CV CS CQ) (gP : X.mg "InvalidPolicy" = some (.ref CP)) (gV : X.mg "InvalidView" = some (.ref CV)) (gS : X.mg "InvalidScore" = some (.ref CS)) (gQ : X.mg "InvalidQuestion" = some (.ref CQ)) (gN : X.mg "NetError" = some (.ref CN)) :
    GivesTo X ["work", "e"] "_law_refused" (defScope s__law_refused) g cdg (defBody s__law_refused) "work" q (TTr CP CV CS CQ) := by
  intro f c' s H Q tl act hc h
  refine ⟨_, pss_cons (ps_try_hears (X := (cxOf C8.CX0 X.prog X.w X.K X.mg X.base ["work", "e"] "_law_refused" (defScope s__law_refused) g cdg X.A X.stack s H C8.E0).nox)
      (tb := fun W D σ H => ∃ Ech : XK, (∀ cls d σ' H', Ech cls d H' → W cls d σ' H') ∧ σ[0]? = some (some (.ref f)) ∧ H c' = some (CodeO c' q) ∧ tl Ech H (fun _ H' => D.nx σ H'))
      rfl rfl (fun W pn xe tk _ => ?_)
      (hears_named (c := .ref CP) (i := 1) (ts := fun a cls d D σ H => cls = .ref CP ∧ (σ.length = 2 → tWd "policy" CP a cls d D σ H)) rfl sc__law_refused.nd rfl rfl ⟨rfl, by decide, .inl gP⟩ (fun a oe cls d pn hz hf => pss_given (n := 2) rfl fun hcls => ?_)
      (hears_named (c := .ref CV) (i := 1) (ts := fun a cls d D σ H => cls = .ref CV ∧ (σ.length = 2 → tWd "view" CV a cls d D σ H)) rfl sc__law_refused.nd rfl rfl ⟨rfl, by decide, .inl gV⟩ (fun a oe cls d pn hz hf => pss_given (n := 2) rfl fun hcls => ?_)
      (hears_named (c := .ref CS) (i := 1) (ts := fun a cls d D σ H => cls = .ref CS ∧ (σ.length = 2 → tWd "score" CS a cls d D σ H)) rfl sc__law_refused.nd rfl rfl ⟨rfl, by decide, .inl gS⟩ (fun a oe cls d pn hz hf => pss_given (n := 2) rfl fun hcls => ?_)
      (hears_named (c := .ref CQ) (i := 1) (ts := fun a cls d D σ H => cls = .ref CQ ∧ (σ.length = 2 → tWd "question" CQ a cls d D σ H)) rfl sc__law_refused.nd rfl rfl ⟨rfl, by decide, .inl gQ⟩ (fun a oe cls d pn hz hf => pss_given (n := 2) rfl fun hcls => ?_)
      (hears_plain (c := .ref CN) rfl ⟨rfl, by decide, .inl gN⟩ (fun a oe cls d pn hz hf => pss_one (ps_ret (pe_tup (pa_cons pe_str (pa_cons pe_int pa_nil)))))
      (hears_nil (Wout := fun _ _ _ _ => False) rfl rfl LamX.takes0))))))) (pss_one (ps_ret pe_non)), ?_⟩
  · refine ⟨fun pins s' σ H' D I h' => ?_⟩
    obtain ⟨Ech, hW, h1, h2, h3⟩ := h'
    exact (pss_one (ps_expr (act W pn xe Ech _ _ tk hW))).run pins s' σ H' D I ⟨h1, h2, h3⟩
  · subst hcls
    exact pss_one (ps_ret (pe_tup (pa_cons pe_str (pa_cons (pe_xf T.xp T.np hz hf (pv 1)) pa_nil))))
  · subst hcls
    exact pss_one (ps_ret (pe_tup (pa_cons pe_str (pa_cons (pe_xf T.xv T.nv hz hf (pv 1)) pa_nil))))
  · subst hcls
    exact pss_one (ps_ret (pe_tup (pa_cons pe_str (pa_cons (pe_xf T.xs T.ns hz hf (pv 1)) pa_nil))))
  · subst hcls
    exact pss_one (ps_ret (pe_tup (pa_cons pe_str (pa_cons (pe_xf T.xq T.nq hz hf (pv 1)) pa_nil))))
  · have fin : ∀ {σ' : L2.St} {H' : Hp} {a dd : Addr} {v : V} {w' : Str} {C : Addr} {D : Ends}, (σ'.set 1 (some (V.ref a))).length = 2 → H' dd = some (.xd [(("at" : Str), v)]) → NewO H' (.tup [.str w', v]) (fun x H => D.rt x H) → tWd w' C a (.ref C) (some dd) D (σ'.set 1 (some (V.ref a))) H' := by
      intro σ' H' a dd v w' C D hl hdd hn
      rw [List.length_set] at hl
      have l1 : (σ'.set 1 (some (V.ref a)))[1]? = some (some (V.ref a)) := by
        rw [List.getElem?_set_self (by omega)]
      unfold tWd
      walk_at "rd"
      refine ⟨.ref a, l1, rfl, rfl, dd, _, v, rfl, hdd, by simp [List.lookup], ?_⟩
      walk_at "rd"
      exact hn
    refine ⟨HearR CP CV CS CQ Q, fun cls d σ' H' h => ?_, rfl, hc, h⟩
    obtain ⟨dd, v, rfl, hdd, ⟨rfl, hn⟩ | ⟨rfl, hn⟩ | ⟨rfl, hn⟩ | ⟨rfl, hn⟩⟩ := h
    · exact ⟨true, T.pp, fun _ a _ => ⟨rfl, fun hl => fin hl hdd hn⟩, fun z => Bool.noConfusion z⟩
    · exact ⟨false, T.vp, fun z => Bool.noConfusion z, fun _ => ⟨true, T.vv, fun _ a _ => ⟨rfl, fun hl => fin hl hdd hn⟩, fun z => Bool.noConfusion z⟩⟩
    · exact ⟨false, T.sp, fun z => Bool.noConfusion z, fun _ => ⟨false, T.sv, fun z => Bool.noConfusion z, fun _ => ⟨true, T.ss, fun _ a _ => ⟨rfl, fun hl => fin hl hdd hn⟩, fun z => Bool.noConfusion z⟩⟩⟩
    · exact ⟨false, T.qp, fun z => Bool.noConfusion z, fun _ => ⟨false, T.qv, fun z => Bool.noConfusion z, fun _ => ⟨false, T.qs, fun z => Bool.noConfusion z, fun _ => ⟨true, T.qq, fun _ a _ => ⟨rfl, fun hl => fin hl hdd hn⟩, fun z => Bool.noConfusion z⟩⟩⟩⟩
/-! ### what the law's texts keep -/
theorem tabs_fix {T : List (Addr × Str)} {H H' : Hp} {p q : Addr} (t : Tabs T H) (d : Deal H p q) (f : Fix p q H H') : Tabs T H' := fun z hz => by
  obtain ⟨ps, h1, h2, h3⟩ := t z hz
  refine ⟨ps, f.keep d h1 (fun xs e => nomatch e), h2, fun pos cv hc => ?_⟩
  obtain ⟨c, e1, e2⟩ := h3 pos cv hc
  exact ⟨c, e1, f.keep d e2 (fun xs e => by unfold CodeO at e; cases e)⟩
theorem Deal.extN {H H' : Hp} {p q : Addr} (d : Deal H p q) (e : ExtN H H') : Deal H' p q := by
  obtain ⟨ns, b, d⟩ := d
  exact ⟨ns, b, e _ _ d.hp (fun ps z => nomatch z), e _ _ d.hq (fun ps z => nomatch z), d.ne, d.nn, d.len, d.b0, d.b1⟩
theorem Kp.extN {p q : Addr} {H H' : Hp} (e : ExtN H H') : Kp p q H H' := ⟨fun a o h _ t => e a o h t, fun a xs _ _ h => e a _ h (fun ps z => nomatch z)⟩
theorem tabs_upd {T : List (Addr × Str)} {H : Hp} {a : Addr} {xs : List V} {o : HO} (t : Tabs T H) (ha : H a = some (.lst xs)) : Tabs T (upd H a o) := fun z hz => by
  obtain ⟨ps, h1, h2, h3⟩ := t z hz
  refine ⟨ps, ?_, h2, fun pos cv hc => ?_⟩
  · rw [upd_ne (fun e => by rw [e, ha] at h1; cases h1)]; exact h1
  · obtain ⟨c, e1, e2⟩ := h3 pos cv hc
    refine ⟨c, e1, ?_⟩
    rw [upd_ne (fun e => by rw [e, ha] at e2; unfold CodeO at e2; cases e2)]; exact e2
def qM : Str := (envOfC "_law_views_refused" (defScope s__law_views_refused) 0 0 .none).qual ++ "<lambda>"
def qN : Str := (envOfC "_law_scores_right" (defScope s__law_scores_right) 0 0 .none).qual ++ "<lambda>"
def qR : Str := (envOfC "_law_part_right" (defScope s__law_part_right) 0 0 .none).qual ++ "<lambda>"
/-- a def whose code object is known -/
def DefC (K : PySem.W.Frag) (x : Str) (st : Stmt) (f c : Addr) (fd : FuncData) : Prop :=
  ∃ (oc : Value) (od : Option Addr) (kV doc pm : Value) (an : Option Addr) (ct : Value) (osl : Array (Option Value)), fd = PySem.W.fnOf x x (defArgs st) (defBody st) (defScope st) .none kV doc pm an (.ref c) ct ∧
    K.lookup f = some ⟨oc, od, .func fd, osl⟩ ∧ PySem.W.codeIn K (.ref c) x = true
/-- the deal, the tables, and all that stays -/
structure Wd (TL : List (Addr × Str)) (p q : Addr) (H0 H : Hp) : Prop where
  d : Deal H p q
  t : Tabs TL H
  k : Kp p q H0 H
section
variable {TL : List (Addr × Str)} {p q : Addr} {H0 H H' : Hp}
theorem Wd.same (b : Wd TL p q H0 H) (s : Same H H') : Wd TL p q H0 H' := ⟨b.d.same s, b.t.ext s, b.k.trans (Kp.same s)⟩
theorem Wd.fix (b : Wd TL p q H0 H) (d : Deal H' p q) (f : Fix p q H H') : Wd TL p q H0 H' := ⟨d, tabs_fix b.t b.d f, b.k.trans (Kp.fix b.d f)⟩
theorem Wd.extN (b : Wd TL p q H0 H) (e : ExtN H H') (t : Tabs TL H') : Wd TL p q H0 H' := ⟨b.d.extN e, t, b.k.trans (Kp.extN e)⟩
end
theorem rd_lam {T : List (Addr × Str)} {TT : (XK → Hp → VK → Prop) → Hp → VK → Prop} {t : XK → TE} {σ : L2.St} {H : Hp} {Q : VK} (hT : Tabs T H) (h : ∀ H1, ExtN H H1 → Tabs T H1 → TT (fun E H' Q' => t E σ H' Q') H1 Q) : tLam T TT t σ H Q := ⟨hT, h⟩
theorem rd_ttr {CP CV CS CQ : Addr} {tl : XK → Hp → VK → Prop} {H : Hp} {Q : VK} (h : tl (HearR CP CV CS CQ Q) H (fun _ H' => Q .non H')) : TTr CP CV CS CQ tl H Q := h
section
variable {CP CV CS CQ : Addr} {H : Hp} {Q : VK} {i : Int}
theorem told_p (h : ∀ H' r, Same H H' → H' r = some (.tup [.str "policy", .int i]) → Q (.ref r) H') : ErrAt CP (HearR CP CV CS CQ Q) H i := fun H' d S hd =>
  ⟨d, .int i, rfl, upd_same, .inl ⟨rfl, fun r H2 _ S2 e2 => h H2 r ((S.trans (Same.fresh hd)).trans S2) e2⟩⟩
theorem told_v (h : ∀ H' r, Same H H' → H' r = some (.tup [.str "view", .int i]) → Q (.ref r) H') : ErrAt CV (HearR CP CV CS CQ Q) H i := fun H' d S hd =>
  ⟨d, .int i, rfl, upd_same, .inr (.inl ⟨rfl, fun r H2 _ S2 e2 => h H2 r ((S.trans (Same.fresh hd)).trans S2) e2⟩)⟩
theorem told_s (h : ∀ H' r, Same H H' → H' r = some (.tup [.str "score", .int i]) → Q (.ref r) H') : ErrAt CS (HearR CP CV CS CQ Q) H i := fun H' d S hd =>
  ⟨d, .int i, rfl, upd_same, .inr (.inr (.inl ⟨rfl, fun r H2 _ S2 e2 => h H2 r ((S.trans (Same.fresh hd)).trans S2) e2⟩))⟩
theorem told_q (h : ∀ H' r, Same H H' → H' r = some (.tup [.str "question", .int i]) → Q (.ref r) H') : ErrAt CQ (HearR CP CV CS CQ Q) H i := fun H' d S hd =>
  ⟨d, .int i, rfl, upd_same, .inr (.inr (.inr (⟨rfl, fun r H2 _ S2 e2 => h H2 r ((S.trans (Same.fresh hd)).trans S2) e2⟩)))⟩
end
theorem dp_word {K : PySem.W.Frag} {H : Hp} {r : Addr} {w : Str} {i : Int} (h : H r = some (.tup [.str w, .int i])) : Dp K H (.ref r) (.tuple [.str w, .int i]) := .tup (SqT.of h) (.cons (.str w) (.cons (.int i) .nil))
theorem rep_word {w : Str} {i : Int} (h0 : 0 ≤ i) (h1 : i < 1000) (hw : Sm (.str w) 200 0) : Rep (.tuple [.str w, .int i]) :=
  (SmA.cons (w := 200) hw (SmA.cons ((sm_int h0 h1).mono (by omega) (Nat.le_refl _)) (SmA.nil (w := 201) (k := 0)))).tuple.rep (by show 201 * 2 ≤ _; decide) (by decide)
theorem sm_policy : Sm (.str "policy") 200 0 := ⟨by decide +kernel, rfl, by decide +kernel, by decide +kernel, by decide⟩
theorem sm_view : Sm (.str "view") 200 0 := ⟨by decide +kernel, rfl, by decide +kernel, by decide +kernel, by decide⟩
theorem sm_score : Sm (.str "score") 200 0 := ⟨by decide +kernel, rfl, by decide +kernel, by decide +kernel, by decide⟩
theorem sm_question : Sm (.str "question") 200 0 := ⟨by decide +kernel, rfl, by decide +kernel, by decide +kernel, by decide⟩
/-- objects that stay while lists may be written on -/
theorem tyx_kp {K : PySem.W.Frag} {H H' : Hp} {x : V} {n : String} (h : TyX K H x (.type n)) (s : ExtN H H') : TyX K H' x (.type n) := by
  cases h with
  | base h =>
    refine .base ?_
    cases h with
    | lst e => exact .lst (s _ _ e fun _ z => nomatch z)
    | frz e => exact .frz (s _ _ e fun _ z => nomatch z)
    | tup e => exact .tup (s _ _ e fun _ z => nomatch z)
    | dK e => exact .dK (s _ _ e fun _ z => nomatch z)
    | dT e => exact .dT (s _ _ e fun _ z => nomatch z)
    | _ => constructor
  | byt b => exact .byt b
  | set e => exact .set (s _ _ e fun _ z => nomatch z)
  | kList e c => exact .kList e c
  | kTuple e c => exact .kTuple e c
  | kDict e c => exact .kDict e c
  | fTuple e => exact .fTuple (s _ _ e fun _ z => nomatch z)
  | fDict e => exact .fDict (s _ _ e fun _ z => nomatch z)
theorem tup_xn {H H' : Hp} {a : Addr} {xs : List V} (h : Tup H a xs) (s : ExtN H H') : Tup H' a xs := by
  rcases h with h | ⟨o, h⟩
  · exact .inl (s _ _ h fun _ z => nomatch z)
  · exact .inr ⟨o, s _ _ h fun _ z => nomatch z⟩
theorem kin_xn {K : PySem.W.Frag} {H H' : Hp} {x : V} {o : Option Int} (h : Kin K H x o) (s : ExtN H H') : Kin K H' x o := by
  cases h with
  | int i => exact .int i
  | oth t h1 h2 h3 => exact .oth (tyx_kp t s) h1 h2 h3
theorem sqx_xn {K : PySem.W.Frag} {H H' : Hp} {x : V} {o : Option (List V)} (h : SqX K H x o) (s : ExtN H H') : SqX K H' x o := by
  cases h with
  | lst h => exact .lst (s _ _ h fun _ z => nomatch z)
  | tup h => exact .tup (tup_xn h s)
  | oth t h1 h2 => exact .oth (tyx_kp t s) h1 h2
theorem nb_xn {K : PySem.W.Frag} {H H' : Hp} {x : V} {b : Bool} (h : NbIs K H x b) (s : ExtN H H') : NbIs K H' x b := by
  cases h with
  | oth h => exact .oth (sqx_xn h s)
  | long h l => exact .long (sqx_xn h s) l
  | all h k l => exact .all (sqx_xn h s) (paired_mono k fun _ _ z => kin_xn z s) l
theorem VwX.xn {K : PySem.W.Frag} {H H' : Hp} {x : V} {o : Option Vw} (h : VwX K H x o) (s : ExtN H H') : VwX K H' x o := by
  cases h with
  | ntp t k => exact .ntp (tyx_kp t s) k
  | len h l => exact .len (tup_xn h s) l
  | mode h k b => exact .mode (tup_xn h s) (kin_xn k s) b
  | row h k t kt => exact .row (tup_xn h s) (kin_xn k s) (tyx_kp t s) kt
  | bad h k hz n => exact .bad (tup_xn h s) (kin_xn k s) (tup_xn hz s) (nb_xn n s)
  | uns h hz m0 m4 hn l q => exact .uns (tup_xn h s) (tup_xn hz s) m0 m4 hn l q
  | ok h hz m0 m4 hn l q => exact .ok (tup_xn h s) (tup_xn hz s) m0 m4 hn l q
theorem VbX.xn {K : PySem.W.Frag} {H H' : Hp} {k : Int} {x : V} {o : Option Vw} (h : VbX K H k x o) (s : ExtN H H') : VbX K H' k x o := by
  obtain ⟨o', h1, h2⟩ := h
  exact ⟨o', h1.xn s, h2⟩
theorem VAt.kp {p q : Addr} {H H' : Hp} {x : V} {c : Vw} (h : VAt H x c) (k : Kp p q H H') : VAt H' x c := h.mono fun _ _ t => k.tupR t
theorem VL.kp {p q l : Addr} {H H' : Hp} {ws : List Vw} (h : VL p q H l ws) (k : Kp p q H H') : VL p q H' l ws := by
  obtain ⟨a, b, xs, h1, h2⟩ := h
  exact ⟨a, b, xs, k.ls _ _ a b h1, paired_mono h2 fun _ _ z => z.kp k⟩
theorem dn_kp {P : Program} {w : World} {p q a : Addr} {H H' : Hp} {kvs : List (NestedKey × V)} (h : DN P w H a kvs) (k : Kp p q H H') : DN P w H' a kvs := h.mono (fun _ e => k.nl _ _ e (fun _ z => nomatch z) (fun _ z => nomatch z)) fun _ _ e => k.tupR e
theorem PolAt.kp {P : Program} {w : World} {p q C s : Addr} {H H' : Hp} {k : Int} {ws : List Vw} (h : PolAt P w C H s k ws) (s' : Kp p q H H') : PolAt P w C H' s k ws := by
  obtain ⟨dx, t, d, ys, h1, h2, h3, h4⟩ := h
  exact ⟨dx, t, d, ys, s'.nl _ _ h1 (fun _ z => nomatch z) (fun _ z => nomatch z), s'.tupR h2, paired_mono h3 fun _ _ z => z.kp s', dn_kp h4 s'⟩
end K03

namespace K03
open PySem PySem.Spec PyProof.Rows L2 KX LamX RZ
local macro_rules | `(tactic| walk_at "rd1") => `(tactic| first
  | with_reducible refine rd_seq ?_
  | with_reducible refine rd_for ?_
  | with_reducible refine rd_lc ?_
  | with_reducible refine rd_asg ?_
  | ((with_reducible refine' rd_var ?rdv ?_); (case rdv => exact rfl))
  | with_reducible refine rd_c ?_
  | with_reducible refine rd_op ?_
  | with_reducible refine rd_un ?_
  | with_reducible refine rd_cons ?_
  | with_reducible refine rd_nil ?_
  | with_reducible refine rd_call ?_
  | with_reducible refine rd_cb ?_
  | with_reducible refine rd_tB ?_
  | with_reducible refine rd_test ?_
  | with_reducible refine rd_bl ?_
  | with_reducible refine rd_rI0 ?_
  | with_reducible refine rd_eqI ?_
  | with_reducible refine rd_neI ?_
  | with_reducible refine rd_rU ?_
  | with_reducible refine rd_name ?_
  | with_reducible refine rd_ifs ?_
  | with_reducible refine rd_and ?_
  | with_reducible refine rd_or ?_
  | with_reducible refine rd_not ?_
  | with_reducible refine rd_yes ?_
  | with_reducible refine rd_andV ?_
  | with_reducible refine rd_orV ?_
  | with_reducible refine rd_notV ?_
  | with_reducible refine rd_if ?_
  | with_reducible refine rd_isN ?_
  | with_reducible refine rd_iT ?_
  | with_reducible refine rd_iF ?_
  | with_reducible refine rd_ret ?_
  | with_reducible refine rd_retN ?_
  | with_reducible refine rd_drop ?_
  | with_reducible refine rd_next ?_
  | with_reducible refine rd_cont ?_
  | with_reducible refine rd_brk ?_
  | with_reducible refine rd_nx ?_
  | with_reducible refine rd_rt ?_
  | with_reducible refine rd_ct ?_
  | with_reducible refine rd_bk ?_
  | with_reducible refine rd_par ?_
  | with_reducible refine rd_par3 ?_
  | with_reducible refine rd_par2 ?_
  | with_reducible refine rd_par33 ?_
  | with_reducible refine rd_gcons ?_
  | with_reducible refine rd_gnil ?_
  | with_reducible refine rd_sub ?_
  | with_reducible refine rd_tup ?_
  | with_reducible refine rd_lst ?_
  | ((with_reducible refine rd_tupT ?hl ?_); (case hl => exact Nat.le_of_ble_eq_true rfl))
  | ((with_reducible refine rd_lstT ?hl ?_); (case hl => exact Nat.le_of_ble_eq_true rfl))
  | with_reducible refine rd_bm ?_
  | with_reducible refine rd_bm0 ?_
  | with_reducible refine rd_sl ?_
  | with_reducible refine rd_noP ?_
  | with_reducible refine rd_part ?_
  | with_reducible refine rd_int ?_
  | with_reducible refine rd_int1 ?_
  | with_reducible refine rd_fld ?_
  | with_reducible refine rd_then ?_
  | with_reducible refine rd_raise ?_
  | with_reducible refine rd_one ?_
  | with_reducible refine rd_sfld ?_
  | with_reducible refine rd_ilist ?_
  | with_reducible refine rd_itup ?_
  | with_reducible refine rd_rng1 ?_
  | with_reducible refine rd_enum ?_
  | with_reducible refine rd_enumT ?_)
local macro_rules | `(tactic| walk_at "rd") => `(tactic| repeat (walk_at "rd1"))
def T3 (tM tN tR : Addr) : List (Addr × Str) := [(tM, qM), (tN, qN), (tR, qR)]
/-- the makers' code objects and their tables -/
structure Tb (base : Heap) (mg : Str → Option Value) (cM tM cN tN cR tR : Addr) : Prop where
  M : TabB base mg cM tM
  N : TabB base mg cN tN
  R : TabB base mg cR tR
  mn : tM ≠ tN
  mr : tM ≠ tR
  nr : tN ≠ tR
section
variable {base : Heap} {mg : Str → Option Value} {cM tM cN tN cR tR : Addr}
theorem t3_mem {p : Addr × Str} (hp : p ∈ T3 tM tN tR) : p = (tM, qM) ∨ p = (tN, qN) ∨ p = (tR, qR) := by unfold T3 at hp; simpa using hp
theorem t3_uM (B : Tb base mg cM tM cN tN cR tR) (p : Addr × Str) (hp : p ∈ T3 tM tN tR) (e : p.1 = tM) : p.2 = qM := by
  rcases t3_mem hp with rfl | rfl | rfl
  · rfl
  · exact absurd e.symm B.mn
  · exact absurd e.symm B.mr
theorem t3_uN (B : Tb base mg cM tM cN tN cR tR) (p : Addr × Str) (hp : p ∈ T3 tM tN tR) (e : p.1 = tN) : p.2 = qN := by
  rcases t3_mem hp with rfl | rfl | rfl
  · exact absurd e B.mn
  · rfl
  · exact absurd e.symm B.nr
theorem t3_uR (B : Tb base mg cM tM cN tN cR tR) (p : Addr × Str) (hp : p ∈ T3 tM tN tR) (e : p.1 = tR) : p.2 = qR := by
  rcases t3_mem hp with rfl | rfl | rfl
  · exact absurd e B.mr
  · exact absurd e B.nr
  · rfl
end
theorem kb_Policy {K : PySem.W.Frag} {mg : Str → Option Value} (T : TX K mg) : KBn K T.d_Policy_init ["self", "modes", "views"] 1 ["views", "modes"] (fun us ws => us ++ ws.reverse) (fun vs zs => vs ++ zs.reverse) :=
  fk_made T.F_Policy_init fun _ _ _ _ _ _ _ _ _ => rfl
theorem rd_dnew {σ : L2.St} {H : Hp} {Q : VK} (h : NewO H (.dK []) Q) : tDNewK σ H Q := new_of h
theorem sh_word {w : Str} (hw : PyData.canLay0 (.str w) = true) (i : Int) : SeqAt.shaped (.tuple [.str w, .int i]) = true := by
  have h1 : PyData.depth (.tuple [.str w, .int i]) = 1 := rfl
  have h2 : PyData.canLay0 (.tuple [.str w, .int i]) = (PyData.canLay0 (.str w) && (PyData.canLay0 (.int i) && true)) := rfl
  have h3 : PyData.canLay0 (.int i) = true := rfl
  unfold SeqAt.shaped
  rw [h1, h2, h3, hw]; rfl
theorem lay_view : PyData.canLay0 (.str "view") = true := by decide +kernel
theorem lay_policy : PyData.canLay0 (.str "policy") = true := by decide +kernel
theorem lay_score : PyData.canLay0 (.str "score") = true := by decide +kernel
theorem lay_question : PyData.canLay0 (.str "question") = true := by decide +kernel
theorem eqv_word (w : Str) (i : Int) : PyData.eqv (.tuple [.str w, .int i]) (.tuple [.str w, .int i]) = true := by
  show ((w == w) && ((i == i) && true)) = true
  simp
theorem rd_eqW {K : PySem.W.Frag} {H : Hp} {r s : Addr} {w : Str} {i : Int} {Q : VK} (hw : PyData.canLay0 (.str w) = true) (h1 : H r = some (.tup [.str w, .int i])) (h2 : H s = some (.tup [.str w, .int i])) (h : Q (.bl true) H) : rEqD K (.ref r) (.ref s) H Q :=
  ⟨_, _, dp_word h1, dp_word h2, sh_word hw _, sh_word hw _, by rw [eqv_word]; exact h⟩
theorem rd_neW {K : PySem.W.Frag} {H : Hp} {r s : Addr} {w : Str} {i : Int} {Q : VK} (hw : PyData.canLay0 (.str w) = true) (h1 : H r = some (.tup [.str w, .int i])) (h2 : H s = some (.tup [.str w, .int i])) (h : Q (.bl false) H) : rNeD K (.ref r) (.ref s) H Q :=
  ⟨_, _, dp_word h1, dp_word h2, sh_word hw _, sh_word hw _, by rw [eqv_word]; exact h⟩
/-- no view below k, whatever comes -/
def BadV (K : PySem.W.Frag) (p q : Addr) (H : Hp) (k : Int) (x : V) : Prop := ∀ H', Kp p q H H' → VbX K H' k x none
theorem vb_none {K : PySem.W.Frag} {H : Hp} {k : Int} {x : V} (h : VwX K H x none) : VbX K H k x none := ⟨none, h, rfl⟩
theorem kit_no (n : String) (h : kitB n "tuple" = some false) : kitB n "tuple" = some false := h
/-- what is no number of modes, whatever comes -/
def BadM (K : PySem.W.Frag) (p q : Addr) (H : Hp) (x : V) : Prop := ∀ H', Kp p q H H' → ∃ o, okM o = false ∧ Kin K H' x o
/-- what is no list or tuple, whatever comes -/
def NoSq (K : PySem.W.Frag) (p q : Addr) (H : Hp) (x : V) : Prop := ∀ H', Kp p q H H' → SqX K H' x none
theorem kin_str {K : PySem.W.Frag} {H : Hp} (x : Str) : Kin K H (.str x) none := .oth (b1 := false) (b2 := false) (.base (.str x)) (by decide +kernel) (by decide +kernel) rfl
theorem kin_non {K : PySem.W.Frag} {H : Hp} : Kin K H .non none := .oth (b1 := false) (b2 := false) (.base .non) (by decide +kernel) (by decide +kernel) rfl
theorem kin_bl {K : PySem.W.Frag} {H : Hp} (b : Bool) : Kin K H (.bl b) none := .oth (b1 := true) (b2 := true) (.base (.bl b)) (by decide +kernel) (by decide +kernel) rfl
theorem kin_tup {K : PySem.W.Frag} {H : Hp} {a : Addr} {xs : List V} (h : H a = some (.tup xs)) : Kin K H (.ref a) none := .oth (b1 := false) (b2 := false) (.base (.tup h)) (by decide +kernel) (by decide +kernel) rfl
theorem kin_lst {K : PySem.W.Frag} {H : Hp} {a : Addr} {xs : List V} (h : H a = some (.lst xs)) : Kin K H (.ref a) none := .oth (b1 := false) (b2 := false) (.base (.lst h)) (by decide +kernel) (by decide +kernel) rfl
theorem sq_non {K : PySem.W.Frag} {H : Hp} : SqX K H .non none := .oth (.base .non) (by decide +kernel) (by decide +kernel)
theorem sq_int {K : PySem.W.Frag} {H : Hp} (i : Int) : SqX K H (.int i) none := .oth (.base (.int i)) (by decide +kernel) (by decide +kernel)
theorem sq_str {K : PySem.W.Frag} {H : Hp} (x : Str) : SqX K H (.str x) none := .oth (.base (.str x)) (by decide +kernel) (by decide +kernel)
theorem sq_bl {K : PySem.W.Frag} {H : Hp} (b : Bool) : SqX K H (.bl b) none := .oth (.base (.bl b)) (by decide +kernel) (by decide +kernel)
theorem sq_dic {K : PySem.W.Frag} {H : Hp} {a : Addr} {kvs : List (Key × V)} (h : H a = some (.dK kvs)) : SqX K H (.ref a) none := .oth (.base (.dK h)) (by decide +kernel) (by decide +kernel)
section
variable {K : PySem.W.Frag} {p q a r : Addr} {H : Hp} {k : Int}
theorem Kp.dk {H' : Hp} {kvs : List (Key × V)} (z : Kp p q H H') (h : H a = some (.dK kvs)) : H' a = some (.dK kvs) := z.nl _ _ h (fun _ z => nomatch z) (fun _ z => nomatch z)
theorem bad_non : BadV K p q H k .non := fun H' _ => vb_none (.ntp (.base .non) (by decide +kernel))
theorem bad_int (i : Int) : BadV K p q H k (.int i) := fun H' _ => vb_none (.ntp (.base (.int i)) (by decide +kernel))
theorem bad_lst {xs : List V} (n1 : a ≠ p) (n2 : a ≠ q) (h : H a = some (.lst xs)) : BadV K p q H k (.ref a) := fun H' z => vb_none (.ntp (.base (.lst (z.ls _ _ n1 n2 h))) (by decide +kernel))
theorem bad_row {xs : List V} (h : H a = some (.tup [.int 0, .ref r])) (n1 : r ≠ p) (n2 : r ≠ q) (hr : H r = some (.lst xs)) : BadV K p q H k (.ref a) := fun H' z => vb_none (.row (Tup.of (z.tup h)) (.int 0) (.base (.lst (z.ls _ _ n1 n2 hr))) (by decide +kernel))
theorem bad_uns (h : H a = some (.tup [.int 0, .ref r])) (hr : H r = some (.tup [.int 1, .int 0])) : BadV K p q H k (.ref a) := fun H' z =>
  vb_none (.uns (ns := [1, 0]) (Tup.of (z.tup h)) (Tup.of (z.tup hr)) (by decide) (by decide) (by simp) (by decide) (fun e => by have z := sortI_srt [1, 0]; rw [← e] at z; exact absurd z (by decide)))
theorem bad_mode {y x : V} (h : H a = some (.tup [y, x])) (ky : ∀ H', Kp p q H H' → Kin K H' y none) : BadV K p q H k (.ref a) := fun H' z => vb_none (.mode (Tup.of (z.tup h)) (ky H' z) rfl)
theorem bad_top (k1 : 1 ≤ k) (k4 : k ≤ 4) (h : H a = some (.tup [.int k, .ref r])) (hr : H r = some (.tup [])) : BadV K p q H k (.ref a) := fun H' z => by
  by_cases e : k < 4
  · refine ⟨some (k, []), .ok (ns := []) (Tup.of (z.tup h)) (Tup.of (z.tup hr)) (by omega) e (by simp) (by simp) (by decide +kernel), ?_⟩
    show none = if belowV k (k, []) = true then some (k, []) else none
    rw [if_neg fun b => by have := (belowV_iff.mp b).1; have : k < k := this; omega]
  · exact vb_none (.mode (Tup.of (z.tup h)) (.int k) (by show (decide (0 ≤ k) && decide (k < 4)) = false; rw [decide_eq_false e, Bool.and_false]))
theorem srt_one (i : Int) : [i] = sortI [i] := sortI_of (List.Perm.refl _) (by simp)
theorem bad_one (k1 : 1 ≤ k) (k4 : k ≤ 4) (h : H a = some (.tup [.int 0, .ref r])) (hr : H r = some (.tup [.int k])) : BadV K p q H k (.ref a) := fun H' z => by
  by_cases e : k < 4
  · refine ⟨some (0, [k]), .ok (ns := [k]) (Tup.of (z.tup h)) (Tup.of (z.tup hr)) (by omega) (by decide) (by intro n hn; rw [List.mem_singleton.mp hn]; omega) (by simp) (srt_one k), ?_⟩
    show none = if belowV k (0, [k]) = true then some (0, [k]) else none
    rw [if_neg fun b => by have := (belowV_iff.mp b).2 k (by simp); omega]
  · refine vb_none (.bad (Tup.of (z.tup h)) (.int 0) (Tup.of (z.tup hr)) ?_)
    have nb : NbIs K H' (.ref r) ([some k].all bel4) := .all (.tup (Tup.of (z.tup hr))) (.cons (.int k) .nil) (by simp)
    have e2 : [some k].all bel4 = false := by
      show ((decide (0 ≤ k) && decide (k < 4)) && true) = false
      rw [decide_eq_false e, Bool.and_false]; rfl
    rwa [e2] at nb
theorem bad_long (h : H a = some (.tup [.int 0, .ref r])) (hr : H r = some (.tup [.int 0, .int 0, .int 0, .int 0, .int 0])) : BadV K p q H k (.ref a) := fun H' z =>
  vb_none (.bad (Tup.of (z.tup h)) (.int 0) (Tup.of (z.tup hr)) (.long (.tup (Tup.of (z.tup hr))) (by decide)))
end
theorem paired_rep {α β : Type} {F : α → β → Prop} {a : α} {b : β} (h : F a b) : ∀ n, Paired F (List.replicate n a) (List.replicate n b)
  | 0 => .nil
  | n + 1 => .cons h (paired_rep h n)
theorem kp_of {TL : List (Addr × Str)} {p q : Addr} {H0 H1 H2 H3 : Hp} (a : Wd TL p q H0 H1) (f : Kp p q H1 H2) : Kp p q H0 H2 := a.k.trans f
def spVR (K : PySem.W.Frag) (tM tN tR : Addr) : L2.Sp := fun vs H Q _ => ∃ (p q vl : Addr) (k : Int) (ws : List Vw), vs = [.ref p, .int k, .ref vl] ∧ Wd (T3 tM tN tR) p q H H ∧ 1 ≤ k ∧ k ≤ 4 ∧ VL p q H vl ws ∧ ws.Nodup ∧ (∀ w ∈ ws, GoodV k w) ∧ ws.length ≤ 20 ∧ ∀ H', Wd (T3 tM tN tR) p q H H' → Q (.bl true) H'
section
variable {P : Program} {w : World} {K : PySem.W.Frag} {mg : Str → Option Value} {base : Heap} (T : TX K mg)
theorem G__law_views_refused {cM tM cN tN cR tR CN : Addr} (B : Tb base mg cM tM cN tN cR tR) (IR : IsR K T.c_InvalidPolicy T.c_InvalidView T.c_InvalidScore T.c_InvalidQuestion) (gN : mg "NetError" = some (.ref CN)) (DC : DefC K "_law_views_refused" s__law_views_refused T.f__law_views_refused cM T.d__law_views_refused) :
    FnR P w K mg base CX0 (CG 14) T.f__law_views_refused T.d__law_views_refused ["deal", "kinds", "views"] (spVR K tM tN tR) := by
  have bR := T.b__law_refused
  obtain ⟨oc', od', kV', doc', pm', an', cdv', ct', osl', eR, lkR, hcR⟩ := T.F__law_refused.ex
  rw [eR] at bR lkR
  obtain ⟨oc, od, kV, doc, pm, an, ct, osl, eF, lk, hcd⟩ := DC
  rw [eF] at lk
  rw [eF]
  refine fnG_of lk hcd sc__law_views_refused (fun vs H Q E h => ?_) fun A outer s H vs Q E hr hg h => ?_
  · obtain ⟨p, q, vl, k, ws, rfl, _⟩ := h
    rfl
  refine ⟨_, PSs.nox (pss_cons (ps_set (i := 3) sc__law_views_refused.nd rfl (.inl rfl) (pe_call (G__law_any T) (hr.mono (by decide)) (by rfl) T.m__law_any T.F__law_any.kp T.b__law_any .nil pass0 (by exact (pa_cons (pv 0) (pa_cons (pe_op op_add (pe_callB (cr_lenK (K := K)) (by rfl) T.n_len (by decide +kernel) (by exact (pa_cons (pv 2) pa_nil))) pe_int) pa_nil))))) (pss_cons (ps_set (i := 4) sc__law_views_refused.nd rfl (.inl rfl) (pe_lst (pa_cons pe_non (pa_cons (pe_tup (pa_cons pe_int (pa_cons (pe_lst (pa_cons pe_int pa_nil)) pa_nil))) (pa_cons (pe_tup (pa_cons pe_int (pa_cons (pe_tup (pa_cons pe_int (pa_cons pe_int pa_nil))) pa_nil))) (pa_cons (pe_lst (pa_cons pe_int (pa_cons (pe_tup pa_nil) pa_nil))) (pa_cons (pe_tup (pa_cons (pv 1) (pa_cons (pe_tup pa_nil) pa_nil))) (pa_cons (pe_tup (pa_cons pe_int (pa_cons (pe_tup (pa_cons (pv 1) pa_nil)) pa_nil))) (pa_cons pe_int (pa_cons (pe_tup (pa_cons pe_int (pa_cons (pe_tup (pa_cons pe_int (pa_cons pe_int (pa_cons pe_int (pa_cons pe_int (pa_cons pe_int pa_nil)))))) pa_nil))) (pa_cons (pe_tup (pa_cons pe_bl (pa_cons (pe_tup pa_nil) pa_nil))) (pa_cons (pe_tup (pa_cons (pe_tup (pa_cons pe_int (pa_cons (pe_tup pa_nil) pa_nil))) (pa_cons pe_int pa_nil))) pa_nil)))))))))))) (pss_cons (ps_set (i := 5) sc__law_views_refused.nd rfl (.inl rfl) (pe_call (G__law_of T) (hr.mono (by decide)) (by rfl) T.m__law_of T.F__law_of.kp T.b__law_of .nil pass0 (by exact (pa_cons (pv 0) (pa_cons (pe_op op_cat (pv 4) (pe_slice (sl_listK (K := K)) (pe_slice (sl_listK (K := K)) (pv 2) po_none (po_some (pv 3))) po_none (po_some pe_int))) pa_nil))))) (pss_cons (ps_set (i := 8) sc__law_views_refused.nd rfl (.inr rfl) (pe_op op_cat (pe_op op_cat (pe_op op_cat (pe_slice (sl_listK (K := K)) (pv 2) po_none (po_some (pv 3))) (pe_lst (pa_cons (pv 5) pa_nil))) (pe_slice (sl_listK (K := K)) (pv 2) (po_some (pv 3)) po_none)) (pe_ix (ix_listK (K := K)) (pe_lst (pa_cons (pe_lst pa_nil) (pa_cons (pe_lst (pa_cons pe_int pa_nil)) pa_nil))) (pe_call (G__law_any T) (hr.mono (by decide)) (by rfl) T.m__law_any T.F__law_any.kp T.b__law_any .nil pass0 (by exact (pa_cons (pv 0) (pa_cons pe_int pa_nil)))) (fun _ _ => rfl)))) (pss_cons (ps_for PassesOwn.never rfl (pi_tupK (K := K) (pe_tup (pa_cons (pv 8) (pa_cons (pe_tupleK (K := K) (by rfl) T.n_tuple (pv 8)) pa_nil)))) (pg_name (i := 7) sc__law_views_refused.nd rfl (.inr rfl)) (pss_one (ps_if (pt_cmpR (op_neDK (K := K) hr.units) (by exact (pe_lamcall (T := (T3 tM tN tR)) (TT := TTr T.c_InvalidPolicy T.c_InvalidView T.c_InvalidScore T.c_InvalidQuestion) (Ng := ["work", "e"]) (a := "work") (k := 11) (by rfl) T.m__law_refused T.F__law_refused.kp lkR hcR bR sc__law_refused rfl (.inl rfl) (gives IR T.E_InvalidPolicy.gC T.E_InvalidView.gC T.E_InvalidScore.gC T.E_InvalidQuestion.gC gN) B.M rfl (.head _) (t3_uM B) (hr.mono (by decide)) (show LamS (defScope s__law_views_refused) _ from lamS_by (by decide +kernel)) rfl (fun _ _ _ _ _ => rfl) (fun A' outer' s' H' E' f' c' hr' => (pe_make T.M_Policy (G_Policy_init (P := P) (w := w) T) (hr'.mono (by decide)) (by rfl) T.m_Policy T.b_Policy_init .nil (passes_call (takes_of rfl rfl rfl rfl) fun _ _ _ _ z => z) (by exact (pa_cons (pv 1) (pa_cons (pv 7) pa_nil))))))) (pe_tup (pa_cons pe_str (pa_cons (pv 3) pa_nil))) (nomark _)) (pss_one (ps_ret pe_bl)) pss_nil))) (pss_cons (ps_set (i := 6) sc__law_views_refused.nd rfl (.inr rfl) (pe_call (G__law_of T) (hr.mono (by decide)) (by rfl) T.m__law_of T.F__law_of.kp T.b__law_of .nil pass0 (by exact (pa_cons (pv 0) (pa_cons (pe_lst (pa_cons pe_int (pa_cons pe_int (pa_cons pe_non (pa_cons pe_bl (pa_cons pe_str (pa_cons (pe_op op_sub pe_int pe_int) (pa_cons (pe_tup (pa_cons pe_int pa_nil)) (pa_cons (pe_lst (pa_cons pe_int pa_nil)) pa_nil))))))))) pa_nil))))) (pss_cons (ps_if (pt_cmpR (op_neDK (K := K) hr.units) (by exact (pe_lamcall (T := (T3 tM tN tR)) (TT := TTr T.c_InvalidPolicy T.c_InvalidView T.c_InvalidScore T.c_InvalidQuestion) (Ng := ["work", "e"]) (a := "work") (k := 11) (by rfl) T.m__law_refused T.F__law_refused.kp lkR hcR bR sc__law_refused rfl (.inl rfl) (gives IR T.E_InvalidPolicy.gC T.E_InvalidView.gC T.E_InvalidScore.gC T.E_InvalidQuestion.gC gN) B.M rfl (.head _) (t3_uM B) (hr.mono (by decide)) (show LamS (defScope s__law_views_refused) _ from lamS_by (by decide +kernel)) rfl (fun _ _ _ _ _ => rfl) (fun A' outer' s' H' E' f' c' hr' => (pe_makeK0 T.M_Policy (G_Policy_init (P := P) (w := w) T) (hr'.mono (by decide)) (by rfl) T.m_Policy (kb_Policy T) (passes_call (takes_of rfl rfl rfl rfl) fun _ _ _ _ z => z) (by exact (pk_cons (pv 8) (pk_cons (pv 6) pk_nil))))))) (pe_tup (pa_cons pe_str (pa_cons pe_int pa_nil))) (nomark _)) (pss_one (ps_ret pe_bl)) pss_nil) (pss_one (ps_ret (pe_cmpR (op_eqDK (K := K) hr.units) (by exact (pe_lamcall (T := (T3 tM tN tR)) (TT := TTr T.c_InvalidPolicy T.c_InvalidView T.c_InvalidScore T.c_InvalidQuestion) (Ng := ["work", "e"]) (a := "work") (k := 11) (by rfl) T.m__law_refused T.F__law_refused.kp lkR hcR bR sc__law_refused rfl (.inl rfl) (gives IR T.E_InvalidPolicy.gC T.E_InvalidView.gC T.E_InvalidScore.gC T.E_InvalidQuestion.gC gN) B.M rfl (.head _) (t3_uM B) (hr.mono (by decide)) (show LamS (defScope s__law_views_refused) _ from lamS_by (by decide +kernel)) rfl (fun _ _ _ _ _ => rfl) (fun A' outer' s' H' E' f' c' hr' => (pe_make T.M_Policy (G_Policy_init (P := P) (w := w) T) (hr'.mono (by decide)) (by rfl) T.m_Policy T.b_Policy_init .nil (passes_call (takes_of rfl rfl rfl rfl) fun _ _ _ _ z => z) (by exact (pa_cons (pv 1) (pa_cons (pe_call (G__law_of T) (hr'.mono (by decide)) (by rfl) T.m__law_of T.F__law_of.kp T.b__law_of .nil pass0 (by exact (pa_cons (pv 0) (pa_cons (pe_lst (pa_cons pe_non (pa_cons pe_int (pa_cons pe_str (pa_cons pe_dnewK (pa_cons pe_bl pa_nil)))))) pa_nil)))) pa_nil))))))) (pe_tup (pa_cons pe_str (pa_cons pe_int pa_nil))) (nomark _))))))))))), ?_⟩
  obtain ⟨p, q, vl, k, ws, rfl, W, k1, k4, hv, nd, gw, lw, hQ⟩ := h
  obtain ⟨vlp, vlq, xs, hxs, pxs⟩ := id hv
  have lx := paired_len pxs
  walk_at "rd"
  refine rd_len hxs ?_
  walk_at "rd"
  refine ⟨p, q, _, rfl, W.d, by omega, by omega, fun H0 u d0 f0 u0 u1 => ?_⟩
  obtain ⟨j, rfl⟩ := Int.eq_ofNat_of_zero_le u0
  have hj : j ≤ ws.length := by omega
  have W0 := W.fix d0 f0
  have X0 : Kp p q H H0 := W0.k
  walk_at "rd"
  intro a1 H1 n1 S1 e1
  have W1 := W0.same S1
  walk_at "rd"
  intro a2 H2 n2 S2 e2
  have W2 := W1.same S2
  walk_at "rd"
  intro a3 H3 n3 S3 e3
  have W3 := W2.same S3
  walk_at "rd"
  intro a4 H4 n4 S4 e4
  have W4 := W3.same S4
  walk_at "rd"
  intro a5 H5 n5 S5 e5
  have W5 := W4.same S5
  walk_at "rd"
  intro a6 H6 n6 S6 e6
  have W6 := W5.same S6
  walk_at "rd"
  intro a7 H7 n7 S7 e7
  have W7 := W6.same S7
  walk_at "rd"
  intro a8 H8 n8 S8 e8
  have W8 := W7.same S8
  walk_at "rd"
  intro a9 H9 n9 S9 e9
  have W9 := W8.same S9
  walk_at "rd"
  intro a10 H10 n10 S10 e10
  have W10 := W9.same S10
  walk_at "rd"
  intro a11 H11 n11 S11 e11
  have W11 := W10.same S11
  walk_at "rd"
  intro a12 H12 n12 S12 e12
  have W12 := W11.same S12
  walk_at "rd"
  intro a13 H13 n13 S13 e13
  have W13 := W12.same S13
  walk_at "rd"
  intro a14 H14 n14 S14 e14
  have W14 := W13.same S14
  walk_at "rd"
  intro a15 H15 n15 S15 e15
  have W15 := W14.same S15
  walk_at "rd"
  intro a16 H16 n16 S16 e16
  have W16 := W15.same S16
  walk_at "rd"
  intro a17 H17 n17 S17 e17
  have W17 := W16.same S17
  walk_at "rd"
  intro a18 H18 n18 S18 e18
  have W18 := W17.same S18
  have g1 := S18 _ _ (S17 _ _ (S16 _ _ (S15 _ _ (S14 _ _ (S13 _ _ (S12 _ _ (S11 _ _ (S10 _ _ (S9 _ _ (S8 _ _ (S7 _ _ (S6 _ _ (S5 _ _ (S4 _ _ (S3 _ _ (S2 _ _ (e1)))))))))))))))))
  have g2 := S18 _ _ (S17 _ _ (S16 _ _ (S15 _ _ (S14 _ _ (S13 _ _ (S12 _ _ (S11 _ _ (S10 _ _ (S9 _ _ (S8 _ _ (S7 _ _ (S6 _ _ (S5 _ _ (S4 _ _ (S3 _ _ (e2))))))))))))))))
  have g3 := S18 _ _ (S17 _ _ (S16 _ _ (S15 _ _ (S14 _ _ (S13 _ _ (S12 _ _ (S11 _ _ (S10 _ _ (S9 _ _ (S8 _ _ (S7 _ _ (S6 _ _ (S5 _ _ (S4 _ _ (e3)))))))))))))))
  have g4 := S18 _ _ (S17 _ _ (S16 _ _ (S15 _ _ (S14 _ _ (S13 _ _ (S12 _ _ (S11 _ _ (S10 _ _ (S9 _ _ (S8 _ _ (S7 _ _ (S6 _ _ (S5 _ _ (e4))))))))))))))
  have g5 := S18 _ _ (S17 _ _ (S16 _ _ (S15 _ _ (S14 _ _ (S13 _ _ (S12 _ _ (S11 _ _ (S10 _ _ (S9 _ _ (S8 _ _ (S7 _ _ (S6 _ _ (e5)))))))))))))
  have g6 := S18 _ _ (S17 _ _ (S16 _ _ (S15 _ _ (S14 _ _ (S13 _ _ (S12 _ _ (S11 _ _ (S10 _ _ (S9 _ _ (S8 _ _ (S7 _ _ (e6))))))))))))
  have g7 := S18 _ _ (S17 _ _ (S16 _ _ (S15 _ _ (S14 _ _ (S13 _ _ (S12 _ _ (S11 _ _ (S10 _ _ (S9 _ _ (S8 _ _ (e7)))))))))))
  have g8 := S18 _ _ (S17 _ _ (S16 _ _ (S15 _ _ (S14 _ _ (S13 _ _ (S12 _ _ (S11 _ _ (S10 _ _ (S9 _ _ (e8))))))))))
  have g9 := S18 _ _ (S17 _ _ (S16 _ _ (S15 _ _ (S14 _ _ (S13 _ _ (S12 _ _ (S11 _ _ (S10 _ _ (e9)))))))))
  have g10 := S18 _ _ (S17 _ _ (S16 _ _ (S15 _ _ (S14 _ _ (S13 _ _ (S12 _ _ (S11 _ _ (e10))))))))
  have g11 := S18 _ _ (S17 _ _ (S16 _ _ (S15 _ _ (S14 _ _ (S13 _ _ (S12 _ _ (e11)))))))
  have g12 := S18 _ _ (S17 _ _ (S16 _ _ (S15 _ _ (S14 _ _ (S13 _ _ (e12))))))
  have g13 := S18 _ _ (S17 _ _ (S16 _ _ (S15 _ _ (S14 _ _ (e13)))))
  have g14 := S18 _ _ (S17 _ _ (S16 _ _ (S15 _ _ (e14))))
  have g15 := S18 _ _ (S17 _ _ (S16 _ _ (e15)))
  have g16 := S18 _ _ (S17 _ _ (e16))
  have g17 := S18 _ _ (e17)
  have g18 := e18
  have ne1 := W0.d.nes n1
  have ne6 := W5.d.nes n6
  have ne18 := W17.d.nes n18
  have bads : ∀ x ∈ [V.non, .ref a2, .ref a4, .ref a6, .ref a8, .ref a10, .int 3, .ref a12, .ref a14, .ref a17], BadV K p q H18 k x := by
    intro x hx
    simp only [List.mem_cons, List.not_mem_nil, or_false] at hx
    rcases hx with h | h | h | h | h | h | h | h | h | h <;> subst h
    · exact bad_non
    · exact bad_row g2 ne1.1 ne1.2 g1
    · exact bad_uns g4 g3
    · exact bad_lst ne6.1 ne6.2 g6
    · exact bad_top k1 k4 g8 g7
    · exact bad_one k1 k4 g10 g9
    · exact bad_int 3
    · exact bad_long g12 g11
    · exact bad_mode g14 fun H' _ => kin_bl true
    · exact bad_mode g17 fun H' z => kin_tup (z.tup g16)
  clear g1 g2 g3 g4 g5 g6 g7 g8 g9 g10 g11 g12 g13 g14 g15 g16 g17 S1 e1 n1 S2 e2 n2 S3 e3 n3 S4 e4 n4 S5 e5 n5 S6 e6 n6 S7 e7 n7 S8 e8 n8 S9 e9 n9 S10 e10 n10 S11 e11 n11 S12 e12 n12 S13 e13 n13 S14 e14 n14 S15 e15 n15 S16 e16 n16 S17 e17 n17 S18 e18 n18 W0 W1 W2 W3 W4 W5 W6 W7 W8 W9 W10 W11 W12 W13 W14 W15 W16 W17 ne1 ne6 X0 d0 f0
  walk_at "rd"
  have hx18 := W18.k.ls _ _ vlp vlq hxs
  refine rd_slL hx18 fun a19 H19 n19 S19 e19 => ?_
  have ec : cutV xs none (some ((j : Nat) : Int)) = xs.take j := by rw [cut_take _ (by omega) (by omega)]; congr 1
  rw [ec] at e19
  walk_at "rd"
  refine rd_slL e19 fun a20 H20 n20 S20 e20 => ?_
  have ec2 : cutV (xs.take j) none (some 1) = (xs.take j).take 1 := by
    rcases Nat.eq_zero_or_pos (xs.take j).length with z | z
    · rw [List.length_eq_zero_iff.mp z]; rfl
    · rw [cut_take _ (by omega) (by omega)]; congr 1
  rw [ec2] at e20
  refine rd_cat ((S19.trans S20) _ _ g18) e20 (by simp only [List.length_take, List.length_cons, List.length_nil]; omega) fun a21 H21 n21 S21 e21 => ?_
  have S1821 := (S19.trans S20).trans S21
  have W20 := (W18.same S19).same S20
  have W21 := W20.same S21
  have ne21 := W20.d.nes n21
  walk_at "rd"
  refine ⟨p, q, a21, _, rfl, W21.d, ne21.1, ne21.2, e21, by simp, by simp only [List.length_append, List.length_take, List.length_cons, List.length_nil]; omega, fun H22 x hx d22 f22 => ?_⟩
  have W22 := W21.fix d22 f22
  have K1822 : Kp p q H18 H22 := (Kp.same S1821).trans (Kp.fix W21.d f22)
  obtain ⟨c0, hc0, h0⟩ : ∃ c0 : Option Vw, (∀ H', Kp p q H22 H' → VbX K H' k x c0) ∧ ∀ d, c0 = some d → d ∈ ws.take j := by
    rcases List.mem_append.mp hx with h | h
    · exact ⟨none, fun H' z => bads x h H' (K1822.trans z), fun d e => by cases e⟩
    · obtain ⟨i, hi⟩ := List.getElem?_of_mem (List.mem_of_mem_take h)
      obtain ⟨w1, hw1, hxw⟩ := paired_get (paired_tk pxs j) hi
      have m1 := List.mem_of_getElem? hw1
      refine ⟨some w1, fun H' z => ((hxw.kp (W22.k.trans z)).vb (gw w1 (List.mem_of_mem_take m1)) k4), fun d e => by cases e; exact m1⟩
  clear hx bads e19 e20 e21 n19 n20 n21 S19 S20 S21 S1821 W20 W21 ne21 ec ec2 d22 f22 g18 hx18 K1822 W18 ne18
  walk_at "rd"
  have hx22 := W22.k.ls _ _ vlp vlq hxs
  refine rd_slL hx22 fun b1 G1 m1 R1 t1 => ?_
  have ec : cutV xs none (some ((j : Nat) : Int)) = xs.take j := by rw [cut_take _ (by omega) (by omega)]; congr 1
  rw [ec] at t1
  walk_at "rd"
  intro b2 G2 m2 R2 t2
  refine rd_cat (R2 _ _ t1) t2 (by rw [List.length_take]; show _ + 1 ≤ _; omega) fun b3 G3 m3 R3 t3 => ?_
  walk_at "rd"
  have hxG3 := ((R1.trans R2).trans R3) _ _ hx22
  refine rd_slL hxG3 fun b4 G4 m4 R4 t4 => ?_
  have ed : cutV xs (some ((j : Nat) : Int)) none = xs.drop j := by rw [cut_drop _ (by omega) (by omega)]; congr 1
  rw [ed] at t4
  refine rd_cat (R4 _ _ t3) t4 (by simp only [List.length_append, List.length_take, List.length_drop, List.length_cons, List.length_nil]; omega) fun b5 G5 m5 R5 t5 => ?_
  walk_at "rd"
  intro b6 G6 m6 R6 t6
  walk_at "rd"
  intro b7 G7 m7 R7 t7
  walk_at "rd"
  intro b8 G8 m8 R8 t8
  have V0 := W22.same ((((R1.trans R2).trans R3).trans R4).trans R5)
  have V6 := V0.same R6
  have V7 := V6.same R7
  have V8 := V7.same R8
  have ne5 := ((((W22.same R1).same R2).same R3).same R4).d.nes m5
  have ne6 := V0.d.nes m6
  have ne7 := V6.d.nes m7
  walk_at "rd"
  refine ⟨p, q, 2, rfl, V8.d, by omega, by omega, fun G9 v d9 f9 v0 v1 => ?_⟩
  have V9 := V8.fix d9 f9
  have KV9 : Kp p q H22 G9 := (Kp.same (((((((R1.trans R2).trans R3).trans R4).trans R5).trans R6).trans R7).trans R8)).trans (Kp.fix V8.d f9)
  obtain ⟨l, rfl⟩ := Int.eq_ofNat_of_zero_le v0
  have hl : l < 2 := by omega
  have t5' := f9 _ _ ne5.1 ne5.2 (R8 _ _ (R7 _ _ (R6 _ _ t5)))
  have t6' := f9 _ _ ne6.1 ne6.2 (R8 _ _ (R7 _ _ t6))
  have t7' := f9 _ _ ne7.1 ne7.2 (R8 _ _ t7)
  have t8' := f9 _ _ (V7.d.nes m8).1 (V7.d.nes m8).2 t8
  obtain ⟨bz, hbz, tz⟩ : ∃ bz : Addr, atI [V.ref b6, V.ref b7] ((l : Nat) : Int) = some (.ref bz) ∧ G9 bz = some (.lst (List.replicate l (V.int 7))) := by
    have hl2 : l = 0 ∨ l = 1 := by omega
    rcases hl2 with rfl | rfl
    · exact ⟨b6, atI_at (by decide) (by show (0 : Int) < 2; decide) rfl, t6'⟩
    · exact ⟨b7, atI_at (by decide) (by show (1 : Int) < 2; decide) rfl, t7'⟩
  clear t6' t7' t6 t7 t8 m8 m7 m6 m4 m3 m2 m1 R8 R7 R6 t4 t3 t2 t1 ne5 ne6 ne7 V0 V6 V7 hx22 hxG3 ec ed d9 f9
  refine rd_ixL t8' hbz ?_
  refine rd_cat t5' tz (by simp only [List.length_append, List.length_take, List.length_drop, List.length_cons, List.length_nil, List.length_replicate]; omega) fun wr G10 m10 R10 t10 => ?_
  have wne := V9.d.nes m10
  have V10 := V9.same R10
  clear t5' t8' tz hbz m10 V8 m5 t5
  walk_at "rd"
  refine rd_tupL t10 ?_
  intro wt G11 m11 R11 t11
  walk_at "rd"
  intro wp G12 m12 R12 t12
  have V12 := (V10.same R11).same R12
  have t10' := R12 _ _ (R11 _ _ t10)
  have t11' := R12 _ _ t11
  have K22 : Kp p q H22 G12 := (KV9.trans (Kp.same R10)).trans (Kp.same (R11.trans R12))
  clear R12 m12 R11 m11 t11 t10 V9 V10 R10
  obtain ⟨WR, eWR⟩ : ∃ WR, WR = (xs.take j ++ [x]) ++ xs.drop j ++ List.replicate l (V.int 7) := ⟨_, rfl⟩
  rw [← eWR] at t10' t11'
  have lWR : WR.length < 1000 := by rw [eWR]; simp only [List.length_append, List.length_take, List.length_drop, List.length_cons, List.length_nil, List.length_replicate]; omega
  have pW : ∀ H', Kp p q G12 H' → Paired (VbX K H' k) WR ((ws.take j).map some ++ c0 :: ((ws.drop j).map some ++ List.replicate l none)) := fun H' z => by
    have pk : Paired (VbX K H' k) xs (ws.map some) := vs_vb k4 (paired_mono pxs fun _ _ y => y.kp (V12.k.trans z)) gw
    have hx : VbX K H' k x c0 := hc0 H' (K22.trans z)
    have a := paired_app (paired_app (paired_app (paired_tk pk j) (.cons hx .nil)) (paired_dp pk j)) (paired_rep (F := VbX K H' k) (vb_none (VwX.ntp (.base (.int 7)) (by decide +kernel)) : VbX K H' k (.int 7) none) l)
    rw [← List.map_take, ← List.map_drop] at a
    rw [eWR]
    simpa [List.append_assoc] using a
  have lj : (ws.take j).length = j := by rw [List.length_take]; omega
  have ndj : (ws.take j).Nodup := nd.sublist (List.take_sublist _ _)
  have rj := rep_word (i := ((j : Nat) : Int)) (by omega) (by omega) sm_view
  walk_at "rd"
  refine ⟨wp, rfl, ⟨_, SqT.of t12⟩, for_tup (xs := [.ref wr, .ref wt]) (fun i σ H' => (∃ o7, σ = [some (.ref p), some (.int k), some (.ref vl), some (.int ((j : Nat) : Int)), some (.ref a18), some x, none, o7, some (.ref wr)]) ∧ Wd (T3 tM tN tR) p q H H' ∧ Kp p q G12 H')
    ⟨⟨_, rfl⟩, V12, Kp.refl⟩ (fun i σ H' _ pv => SqT.of (pv.2.2.tup t12)) (fun i z σ L0 hz pv => ?_) (fun σ L0 pv => ?_)⟩
  · obtain ⟨⟨o7, rfl⟩, Y0, Z0⟩ := pv
    have hz : ∀ H', Kp p q G12 H' → SqX K H' z (some WR) := fun H' y => by
      have h : z = .ref wr ∨ z = .ref wt := by simpa using List.mem_of_getElem? hz
      rcases h with rfl | rfl
      · exact .lst (y.ls _ _ wne.1 wne.2 t10')
      · exact .tup (Tup.of (y.tup t11'))
    walk_at "rd"
    refine rd_lam Y0.t fun L1 eN T1 => rd_ttr ?_
    have Y1 := Y0.extN eN T1
    have Z1 := Z0.trans (Kp.extN (p := p) (q := q) eN)
    walk_at "rd"
    refine rd_make ?_
    walk_at "rd"
    intro s1 dx1 hs1 hd1 _
    refine pol_badR k1 k4 hs1 hd1 (hz L1 Z1) lWR (pW L1 Z1) ndj h0 ?_
    rw [lj]
    refine told_v fun L2 r2 q2 x2 => ?_
    walk_at "rd"
    intro r3 L3 z3 q3 x3
    refine rd_neW lay_view (q3 _ _ x2) x3 ?_
    walk_at "rd"
    try with_reducible refine iteF' rfl ?_
    walk_at "rd"
    exact ⟨⟨_, rfl⟩, (Y1.same q2).same q3, (Z1.trans (Kp.same q2)).trans (Kp.same q3)⟩
  · obtain ⟨⟨o7, rfl⟩, Y0, Z0⟩ := pv
    walk_at "rd"
    intro c1 N1 z1 P1 y1
    walk_at "rd"
    intro c2 N2 z2 P2 y2
    walk_at "rd"
    intro c3 N3 z3 P3 y3
    have Y1 := Y0.same P1
    have Y2 := Y1.same P2
    have Y3 := Y2.same P3
    have nc2 := Y1.d.nes z2
    have y1' := P3 _ _ (P2 _ _ y1)
    have y2' := P3 _ _ y2
    have Z3 : Kp p q G12 N3 := Z0.trans (Kp.same ((P1.trans P2).trans P3))
    walk_at "rd"
    refine ⟨p, q, c3, _, rfl, Y3.d, (Y2.d.nes z3).1, (Y2.d.nes z3).2, y3, by show 0 < 8; decide, by show 8 < 1000; decide, fun N4 y hy d4 f4 => ?_⟩
    have Y4 := Y3.fix d4 f4
    have K34 := Kp.fix Y3.d f4
    have bm : BadM K p q N4 y := by
      simp only [List.mem_cons, List.not_mem_nil, or_false] at hy
      rcases hy with h | h | h | h | h | h | h | h <;> subst h
      · exact fun H' _ => ⟨some 0, by decide, .int _⟩
      · exact fun H' _ => ⟨some 5, by decide, .int _⟩
      · exact fun H' _ => ⟨none, rfl, kin_non⟩
      · exact fun H' _ => ⟨none, rfl, kin_bl _⟩
      · exact fun H' _ => ⟨none, rfl, kin_str _⟩
      · exact fun H' _ => ⟨some (0 - 1), by decide, .int _⟩
      · exact fun H' z => ⟨none, rfl, kin_tup (z.tup (K34.tup y1'))⟩
      · exact fun H' z => ⟨none, rfl, kin_lst (z.ls _ _ nc2.1 nc2.2 (K34.ls _ _ nc2.1 nc2.2 y2'))⟩
    have Z4 := Z3.trans K34
    clear hy y1' y2' y1 y2 y3 z1 z2 z3 P1 P2 P3 Y1 Y2 Y3 nc2 Z3 K34 d4 f4 Y0 Z0
    walk_at "rd"
    refine rd_lam Y4.t fun L1 eN T1 => rd_ttr ?_
    have Y5 := Y4.extN eN T1
    have Z5 := Z4.trans (Kp.extN (p := p) (q := q) eN)
    obtain ⟨o, ho, ko⟩ := bm L1 (Kp.extN (p := p) (q := q) eN)
    walk_at "rd"
    refine rd_makeK ?_
    walk_at "rd"
    refine ⟨rfl, rfl, fun s1 dx1 hs1 hd1 _ => ?_⟩
    refine pol_badM (o := o) hs1 hd1 ko ho (told_p fun L2 r2 q2 x2 => ?_)
    walk_at "rd"
    intro r3 L3 z3 q3 x3
    refine rd_neW lay_policy (q3 _ _ x2) x3 ?_
    walk_at "rd"
    try with_reducible refine iteF' rfl ?_
    walk_at "rd"
    have Y6 := (Y5.same q2).same q3
    clear bm eN T1 Y4 Z4 Y5 q2 q3 x2 x3 z3 ko
    refine rd_lam Y6.t fun M1 eN T1 => rd_ttr ?_
    have X1 := Y6.extN eN T1
    walk_at "rd"
    refine rd_make ?_
    walk_at "rd"
    refine rd_dnew fun c5 M2 z5 P5 y5 => ?_
    walk_at "rd"
    intro c6 M3 z6 P6 y6
    have X2 := X1.same P5
    have X3 := X2.same P6
    walk_at "rd"
    refine ⟨p, q, c6, _, rfl, X3.d, (X2.d.nes z6).1, (X2.d.nes z6).2, y6, by show 0 < 5; decide, by show 5 < 1000; decide, fun M4 y hy d4 f4 => ?_⟩
    have X4 := X3.fix d4 f4
    have nsq : SqX K M4 y none := by
      simp only [List.mem_cons, List.not_mem_nil, or_false] at hy
      rcases hy with h | h | h | h | h <;> subst h
      · exact sq_non
      · exact sq_int _
      · exact sq_str _
      · exact sq_dic ((Kp.fix X3.d f4).dk (P6 _ _ y5))
      · exact sq_bl _
    clear hy y5 y6 z5 z6 P5 P6 X1 X2 X3 d4 f4
    walk_at "rd"
    intro s2 dx2 hs2 hd2 _
    refine pol_badC k1 k4 hs2 hd2 nsq (told_v fun M5 r5 q5 x5 => ?_)
    walk_at "rd"
    intro r6 M6 z6 q6 x6
    refine rd_eqW lay_view (q6 _ _ x5) x6 ?_
    exact hQ M6 ((X4.same q5).same q6)
end
end K03

namespace K03
open PySem PySem.Spec PyProof.Rows L2 KX LamX RZ
local macro_rules | `(tactic| walk_at "rd1") => `(tactic| first
  | with_reducible refine rd_seq ?_
  | with_reducible refine rd_for ?_
  | with_reducible refine rd_lc ?_
  | with_reducible refine rd_asg ?_
  | ((with_reducible refine' rd_var ?rdv ?_); (case rdv => exact rfl))
  | with_reducible refine rd_c ?_
  | with_reducible refine rd_op ?_
  | with_reducible refine rd_un ?_
  | with_reducible refine rd_cons ?_
  | with_reducible refine rd_nil ?_
  | with_reducible refine rd_call ?_
  | with_reducible refine rd_cb ?_
  | with_reducible refine rd_tB ?_
  | with_reducible refine rd_test ?_
  | with_reducible refine rd_bl ?_
  | with_reducible refine rd_rI0 ?_
  | with_reducible refine rd_eqI ?_
  | with_reducible refine rd_neI ?_
  | with_reducible refine rd_rU ?_
  | with_reducible refine rd_name ?_
  | with_reducible refine rd_ifs ?_
  | with_reducible refine rd_and ?_
  | with_reducible refine rd_or ?_
  | with_reducible refine rd_not ?_
  | with_reducible refine rd_yes ?_
  | with_reducible refine rd_andV ?_
  | with_reducible refine rd_orV ?_
  | with_reducible refine rd_notV ?_
  | with_reducible refine rd_if ?_
  | with_reducible refine rd_isN ?_
  | with_reducible refine rd_iT ?_
  | with_reducible refine rd_iF ?_
  | with_reducible refine rd_ret ?_
  | with_reducible refine rd_retN ?_
  | with_reducible refine rd_drop ?_
  | with_reducible refine rd_next ?_
  | with_reducible refine rd_cont ?_
  | with_reducible refine rd_brk ?_
  | with_reducible refine rd_nx ?_
  | with_reducible refine rd_rt ?_
  | with_reducible refine rd_ct ?_
  | with_reducible refine rd_bk ?_
  | with_reducible refine rd_par ?_
  | with_reducible refine rd_par3 ?_
  | with_reducible refine rd_par2 ?_
  | with_reducible refine rd_par33 ?_
  | with_reducible refine rd_gcons ?_
  | with_reducible refine rd_gnil ?_
  | with_reducible refine rd_sub ?_
  | with_reducible refine rd_tup ?_
  | with_reducible refine rd_lst ?_
  | ((with_reducible refine rd_tupT ?hl ?_); (case hl => exact Nat.le_of_ble_eq_true rfl))
  | ((with_reducible refine rd_lstT ?hl ?_); (case hl => exact Nat.le_of_ble_eq_true rfl))
  | with_reducible refine rd_bm ?_
  | with_reducible refine rd_bm0 ?_
  | with_reducible refine rd_sl ?_
  | with_reducible refine rd_noP ?_
  | with_reducible refine rd_part ?_
  | with_reducible refine rd_int ?_
  | with_reducible refine rd_int1 ?_
  | with_reducible refine rd_fld ?_
  | with_reducible refine rd_then ?_
  | with_reducible refine rd_raise ?_
  | with_reducible refine rd_one ?_
  | with_reducible refine rd_sfld ?_
  | with_reducible refine rd_ilist ?_
  | with_reducible refine rd_itup ?_
  | with_reducible refine rd_rng1 ?_
  | with_reducible refine rd_enum ?_
  | with_reducible refine rd_enumT ?_)
local macro_rules | `(tactic| walk_at "rd") => `(tactic| repeat (walk_at "rd1"))
theorem and_rest {b : Bool} {σ : L2.St} {H : Hp} {tt : TT} {R : Bool → Hp → Prop} (Mid : Hp → Prop) (h3 : ∀ H', Mid H' → R false H') (h1 : b = true → ∀ R' : Bool → Hp → Prop, (∀ H', Mid H' → R' false H') → tt σ H R') (h2 : b = false → Mid H) : if b = true then tt σ H R else R false H := by
  cases hb : b with
  | true => rw [if_pos rfl]; exact h1 hb R h3
  | false => rw [if_neg Bool.false_ne_true]; exact h3 H (h2 hb)
theorem Wd.put {TL : List (Addr × Str)} {p q D : Addr} {H0 H : Hp} {xs ys : List V} (W : Wd TL p q H0 H) (n : H0 D = none) (hD : H D = some (.lst xs)) (Dp : D ≠ p) (Dq : D ≠ q) : Wd TL p q H0 (L2.upd H D (.lst ys)) :=
  ⟨W.d.off Dp Dq, tabs_upd W.t hD, ⟨fun b o e n1 n2 => by rw [upd_ne (fun z => by rw [z, n] at e; cases e)]; exact W.k.nl b o e n1 n2, fun b zs n1 n2 e => by rw [upd_ne (fun z => by rw [z, n] at e; cases e)]; exact W.k.ls b zs n1 n2 e⟩⟩
theorem Wd.fresh {TL : List (Addr × Str)} {p q : Addr} {H0 H : Hp} (W : Wd TL p q H0 H) : Wd TL p q H H := ⟨W.d, W.t, Kp.refl⟩
theorem Wd.trans {TL : List (Addr × Str)} {p q : Addr} {H0 H H' : Hp} (W : Wd TL p q H0 H) (W' : Wd TL p q H H') : Wd TL p q H0 H' := ⟨W'.d, W'.t, W.k.trans W'.k⟩
theorem sm_intz {i : Int} (h0 : -1000 ≤ i) (h1 : i ≤ 1000) : Sm (.int i) 11 0 := by
  have hl : i.natAbs.log2 < 10 := PySem.Flt.log2_lt_of (by decide) (by omega : i.natAbs < 2 ^ 10)
  refine ⟨decide_eq_true (by omega), rfl, ?_, ?_, Nat.le_refl _⟩
  · exact decide_eq_true (PyData.shown_int_le (by omega))
  · show (if i == 0 then 0 else i.natAbs.log2 + 1) ≤ 11
    split <;> omega
theorem sm_intzs : ∀ {r : List Int}, (∀ x ∈ r, -1000 ≤ x ∧ x ≤ 1000) → SmA (r.map PyData.int) 12 0
  | [], _ => .nil
  | x :: r, h => .cons (sm_intz (h x (by simp)).1 (h x (by simp)).2) (sm_intzs fun y hy => h y (by simp [hy]))
theorem rep_ints {r : List Int} (h : ∀ x ∈ r, -1000 ≤ x ∧ x ≤ 1000) (l : r.length ≤ 1000) : Rep (.tuple (r.map PyData.int)) := by
  have a := (sm_intzs h).tuple
  rw [List.length_map] at a
  exact a.rep (by omega) (by decide)
section
variable {P : Program} {w : World} {K : PySem.W.Frag} {C CS s : Addr} {H : Hp} {Q : VK} {E : XK} {x : V} {k : Int} {ws : List Vw}
theorem cs_none (B : PolAt P w C H s k ws) (hx : SqX K H x none) (hE : ErrAt CS E H (ws.length : Nat)) : spCSc P w K C CS [.ref s, x] H Q E :=
  ⟨s, k, ws, x, none, rfl, B, hx, fun _ => hE, fun xs e => by cases e⟩
theorem cs_some {ns : List Int} (B : PolAt P w C H s k ws) (hx : SqX K H x (some (ns.map V.int))) (l : ns.length < 1000) (h : (ns.length ≠ ws.length → ErrAt CS E H (ws.length : Nat)) ∧ (ns.length = ws.length → ∀ H' t, Same H H' → Tup H' t (ns.map V.int) → Q (.ref t) H')) : spCSc P w K C CS [.ref s, x] H Q E := by
  refine ⟨s, k, ws, x, some (ns.map V.int), rfl, B, hx, fun e => (by cases e), fun xs e => ?_⟩
  cases e
  refine ⟨by rw [List.length_map]; omega, ns.map some, kin_all K H ns, fun i hi _ => ?_, fun ms e => ?_⟩
  · rw [List.getElem?_map] at hi
    cases h : ns[i]? <;> rw [h] at hi <;> cases hi
  · have e : ns = ms := by
      have inj : ∀ {a b : List Int}, a.map some = b.map some → a = b := fun {a b} h => by
        have := congrArg (List.filterMap id) h
        simpa [List.filterMap_map] using this
      exact inj e
    subst e
    exact h
theorem cs_bad {xs : List V} {A : List Int} {R : List (Option Int)} (B : PolAt P w C H s k ws) (hx : SqX K H x (some xs)) (l : xs.length < 1000) (hp : Paired (Kin K H) xs (A.map some ++ none :: R)) (hE : ErrAt CS E H (A.length : Nat)) : spCSc P w K C CS [.ref s, x] H Q E := by
  refine ⟨s, k, ws, x, some xs, rfl, B, hx, fun e => (by cases e), fun ys e => ?_⟩
  cases e
  refine ⟨by omega, _, hp, fun i hi hm => ?_, fun ms e => ?_⟩
  · have ei : i = A.length := by
      rcases Nat.lt_trichotomy i A.length with z | z | z
      · rw [List.getElem?_append_left (by rw [List.length_map]; exact z), List.getElem?_map, List.getElem?_eq_getElem z] at hi
        cases hi
      · exact z
      · obtain ⟨m, hm⟩ := hm A.length z
        rw [List.getElem?_append_right (by rw [List.length_map]; omega), List.length_map, Nat.sub_self] at hm
        cases hm
    rw [ei]; exact hE
  · have : none ∈ ms.map some := by rw [← e]; simp
    obtain ⟨m, _, e⟩ := List.mem_map.mp this
    cases e
end
theorem cut_tail (xs : List V) : cutV xs (some 1) none = xs.drop 1 := by
  cases xs with
  | nil => rfl
  | cons x xs => rw [cut_drop _ (by omega) (by simp only [List.length_cons]; omega)]; rfl
def spSR (P : Program) (w : World) (K : PySem.W.Frag) (C tM tN tR : Addr) : L2.Sp := fun vs H Q _ => ∃ (p q s vl : Addr) (k : Int) (ws : List Vw), vs = [.ref p, .ref s, .ref vl] ∧ Wd (T3 tM tN tR) p q H H ∧ PolAt P w C H s k ws ∧ VL p q H vl ws ∧ ws.length ≤ 20 ∧ ∀ H', Wd (T3 tM tN tR) p q H H' → Q (.bl true) H'
theorem kb_checked_scores {K : PySem.W.Frag} {mg : Str → Option Value} (T : TX K mg) : KBn K T.d_checked_scores ["policy", "scores"] 0 ["scores", "policy"] (fun _ ws => match ws with | [v0, v1] => [v1, v0] | ws => ws) (fun _ ws => match ws with | [v0, v1] => [v1, v0] | ws => ws) := by
  obtain ⟨oc, od, kV, doc, pm, an, cdv, ct, osl, e, lk, hcd⟩ := T.F_checked_scores.ex
  rw [e]
  refine ⟨fun s us ws _ h0 h2 => ?_, fun {vs us zs ws} _ r => ?_⟩
  · match us, ws, h0, h2 with
    | [], [v0, v1], _, _ => exact .of_eq rfl
  · exact match r with
      | .nil => .nil
      | .cons a0 (.nil) => .cons a0 (.nil)
      | .cons a0 (.cons a1 (.nil)) => .cons a1 (.cons a0 (.nil))
      | .cons a0 (.cons a1 (.cons a2 (r))) => .cons a0 (.cons a1 (.cons a2 (r)))
section
variable {P : Program} {w : World} {K : PySem.W.Frag} {mg : Str → Option Value} {base : Heap} (T : TX K mg)
theorem G__law_scores_right {cM tM cN tN cR tR CN : Addr} (B : Tb base mg cM tM cN tN cR tR) (IR : IsR K T.c_InvalidPolicy T.c_InvalidView T.c_InvalidScore T.c_InvalidQuestion) (gN : mg "NetError" = some (.ref CN)) (DC : DefC K "_law_scores_right" s__law_scores_right T.f__law_scores_right cN T.d__law_scores_right) :
    FnR P w K mg base CX0 (CG 14) T.f__law_scores_right T.d__law_scores_right ["deal", "policy", "views"] (spSR P w K T.c_Policy tM tN tR) := by
  have bR := T.b__law_refused
  obtain ⟨oc', od', kV', doc', pm', an', cdv', ct', osl', eR, lkR, hcR⟩ := T.F__law_refused.ex
  rw [eR] at bR lkR
  obtain ⟨oc, od, kV, doc, pm, an, ct, osl, eF, lk, hcd⟩ := DC
  rw [eF] at lk
  rw [eF]
  refine fnG_of lk hcd sc__law_scores_right (fun vs H Q E h => ?_) fun A outer s H vs Q E hr hg h => ?_
  · obtain ⟨p, q, s, vl, k, ws, rfl, _⟩ := h
    rfl
  have hu : (A.deeper (envOfC "_law_scores_right" (defScope s__law_scores_right) s.heap.objs.size T.f__law_scores_right (.ref cN))).units + 66 < cLine := by
    have := hr.un
    omega
  refine ⟨_, PSs.nox (pss_cons (ps_set (i := 6) sc__law_scores_right.nd rfl (.inr rfl) (by exact (pe_lc (own := [("view", 7)]) (by rfl) sc__law_scores_right.nd (pi_listK (K := K) (pv 2)) (blkOk_by (own := [("view", 7)]) (N := N__law_scores_right) (sc := defScope s__law_scores_right) (by decide +kernel)) (fun _ _ _ _ _ => (pg_name (i := 7) sc__law_scores_right.nd rfl (.inl rfl))) (fun _ _ _ _ _ => pts_nil) (fun _ _ _ _ _ => (pe_op op_sub (pe_call (G__law_any T) (hr.mono (by decide)) (by rfl) T.m__law_any T.F__law_any.kp T.b__law_any .nil pass0 (by exact (pa_cons (pv 0) (pa_cons pe_int pa_nil)))) pe_int)) ))) (pss_cons (ps_if (pt_cmpR op_ne (pe_callB (cr_reprK (K := K) hg hu) (by rfl) T.n_repr (by decide +kernel) (by exact (pa_cons (pe_call (G_checked_scores (P := P) (w := w) T) (hr.mono (by decide)) (by rfl) T.m_checked_scores T.F_checked_scores.kp T.b_checked_scores .nil passL (by exact (pa_cons (pv 1) (pa_cons (pv 6) pa_nil)))) pa_nil))) (pe_callB (cr_reprK (K := K) hg hu) (by rfl) T.n_repr (by decide +kernel) (by exact (pa_cons (pe_tupleK (K := K) (by rfl) T.n_tuple (pv 6)) pa_nil))) (nomark _)) (pss_one (ps_ret pe_bl)) pss_nil) (pss_cons (ps_if (pt_cmpR op_ne (pe_callB (cr_reprK (K := K) hg hu) (by rfl) T.n_repr (by decide +kernel) (by exact (pa_cons (pe_callK (G_checked_scores (P := P) (w := w) T) (hr.mono (by decide)) (by rfl) T.m_checked_scores T.F_checked_scores.kp (kb_checked_scores T) passL (by exact (pk_cons (pe_tupleK (K := K) (by rfl) T.n_tuple (pv 6)) (pk_cons (pv 1) pk_nil)))) pa_nil))) (pe_callB (cr_reprK (K := K) hg hu) (by rfl) T.n_repr (by decide +kernel) (by exact (pa_cons (pe_tupleK (K := K) (by rfl) T.n_tuple (pv 6)) pa_nil))) (nomark _)) (pss_one (ps_ret pe_bl)) pss_nil) (pss_cons (ps_par (i := 3) (j := 4) (by rfl) sc__law_scores_right.nd rfl rfl (by decide) rfl rfl (pa_cons (pe_call (G__law_any T) (hr.mono (by decide)) (by rfl) T.m__law_any T.F__law_any.kp T.b__law_any .nil pass0 (by exact (pa_cons (pv 0) (pa_cons (pe_op op_add (pe_callB (cr_lenK (K := K)) (by rfl) T.n_len (by decide +kernel) (by exact (pa_cons (pv 6) pa_nil))) pe_int) pa_nil)))) (pa_cons (pe_callB (cr_lenK (K := K)) (by rfl) T.n_len (by decide +kernel) (by exact (pa_cons (pv 2) pa_nil))) pa_nil)) (by rfl)) (pss_cons (ps_set (i := 5) sc__law_scores_right.nd rfl (.inr rfl) (pe_op op_cat (pe_op op_cat (pe_op op_cat (pe_slice (sl_listK (K := K)) (pv 6) po_none (po_some (pv 3))) (pe_lst (pa_cons (pe_call (G__law_of T) (hr.mono (by decide)) (by rfl) T.m__law_of T.F__law_of.kp T.b__law_of .nil pass0 (by exact (pa_cons (pv 0) (pa_cons (pe_lst (pa_cons pe_non (pa_cons pe_bl (pa_cons pe_str (pa_cons (pe_tup (pa_cons pe_int pa_nil)) (pa_cons (pe_lst (pa_cons pe_int pa_nil)) pa_nil)))))) pa_nil)))) pa_nil))) (pe_slice (sl_listK (K := K)) (pv 6) (po_some (pv 3)) po_none)) (pe_ix (ix_listK (K := K)) (pe_lst (pa_cons (pe_lst pa_nil) (pa_cons (pe_lst (pa_cons pe_non pa_nil)) pa_nil))) (pe_call (G__law_any T) (hr.mono (by decide)) (by rfl) T.m__law_any T.F__law_any.kp T.b__law_any .nil pass0 (by exact (pa_cons (pv 0) (pa_cons pe_int pa_nil)))) (fun _ _ => rfl)))) (pss_cons (ps_if (pt_cmpR (op_neDK (K := K) hr.units) (by exact (pe_lamcall (T := (T3 tM tN tR)) (TT := TTr T.c_InvalidPolicy T.c_InvalidView T.c_InvalidScore T.c_InvalidQuestion) (Ng := ["work", "e"]) (a := "work") (k := 11) (by rfl) T.m__law_refused T.F__law_refused.kp lkR hcR bR sc__law_refused rfl (.inl rfl) (gives IR T.E_InvalidPolicy.gC T.E_InvalidView.gC T.E_InvalidScore.gC T.E_InvalidQuestion.gC gN) B.N rfl (.tail _ (.head _)) (t3_uN B) (hr.mono (by decide)) (show LamS (defScope s__law_scores_right) _ from lamS_by (by decide +kernel)) rfl (fun _ _ _ _ _ => rfl) (fun A' outer' s' H' E' f' c' hr' => (pe_call (G_checked_scores (P := P) (w := w) T) (hr'.mono (by decide)) (by rfl) T.m_checked_scores T.F_checked_scores.kp T.b_checked_scores .nil (passes_call (takes_of rfl rfl rfl rfl) fun _ _ _ _ z => z) (by exact (pa_cons (pv 1) (pa_cons (pv 5) pa_nil))))))) (pe_tup (pa_cons pe_str (pa_cons (pv 3) pa_nil))) (nomark _)) (pss_one (ps_ret pe_bl)) pss_nil) (pss_cons (ps_if (pt_cmpR (op_neDK (K := K) hr.units) (by exact (pe_lamcall (T := (T3 tM tN tR)) (TT := TTr T.c_InvalidPolicy T.c_InvalidView T.c_InvalidScore T.c_InvalidQuestion) (Ng := ["work", "e"]) (a := "work") (k := 11) (by rfl) T.m__law_refused T.F__law_refused.kp lkR hcR bR sc__law_refused rfl (.inl rfl) (gives IR T.E_InvalidPolicy.gC T.E_InvalidView.gC T.E_InvalidScore.gC T.E_InvalidQuestion.gC gN) B.N rfl (.tail _ (.head _)) (t3_uN B) (hr.mono (by decide)) (show LamS (defScope s__law_scores_right) _ from lamS_by (by decide +kernel)) rfl (fun _ _ _ _ _ => rfl) (fun A' outer' s' H' E' f' c' hr' => (pe_call (G_checked_scores (P := P) (w := w) T) (hr'.mono (by decide)) (by rfl) T.m_checked_scores T.F_checked_scores.kp T.b_checked_scores .nil (passes_call (takes_of rfl rfl rfl rfl) fun _ _ _ _ z => z) (by exact (pa_cons (pv 1) (pa_cons (pe_op op_cat (pv 6) (pe_lst (pa_cons pe_int pa_nil))) pa_nil))))))) (pe_tup (pa_cons pe_str (pa_cons (pv 4) pa_nil))) (nomark _)) (pss_one (ps_ret pe_bl)) pss_nil) (pss_cons (ps_if (PW.pt (pw_and (pt_cmpR op_gt (pv 4) pe_int (nomark _)) (pw_and1 (pt_cmpR (op_neDK (K := K) hr.units) (by exact (pe_lamcall (T := (T3 tM tN tR)) (TT := TTr T.c_InvalidPolicy T.c_InvalidView T.c_InvalidScore T.c_InvalidQuestion) (Ng := ["work", "e"]) (a := "work") (k := 11) (by rfl) T.m__law_refused T.F__law_refused.kp lkR hcR bR sc__law_refused rfl (.inl rfl) (gives IR T.E_InvalidPolicy.gC T.E_InvalidView.gC T.E_InvalidScore.gC T.E_InvalidQuestion.gC gN) B.N rfl (.tail _ (.head _)) (t3_uN B) (hr.mono (by decide)) (show LamS (defScope s__law_scores_right) _ from lamS_by (by decide +kernel)) rfl (fun _ _ _ _ _ => rfl) (fun A' outer' s' H' E' f' c' hr' => (pe_call (G_checked_scores (P := P) (w := w) T) (hr'.mono (by decide)) (by rfl) T.m_checked_scores T.F_checked_scores.kp T.b_checked_scores .nil (passes_call (takes_of rfl rfl rfl rfl) fun _ _ _ _ z => z) (by exact (pa_cons (pv 1) (pa_cons (pe_tupleK (K := K) (by rfl) T.n_tuple (pe_slice (sl_listK (K := K)) (pv 6) (po_some pe_int) po_none)) pa_nil))))))) (pe_tup (pa_cons pe_str (pa_cons (pv 4) pa_nil))) (nomark _))))) (pss_one (ps_ret pe_bl)) pss_nil) (pss_one (ps_ret (pe_cmpR (op_eqDK (K := K) hr.units) (by exact (pe_lamcall (T := (T3 tM tN tR)) (TT := TTr T.c_InvalidPolicy T.c_InvalidView T.c_InvalidScore T.c_InvalidQuestion) (Ng := ["work", "e"]) (a := "work") (k := 11) (by rfl) T.m__law_refused T.F__law_refused.kp lkR hcR bR sc__law_refused rfl (.inl rfl) (gives IR T.E_InvalidPolicy.gC T.E_InvalidView.gC T.E_InvalidScore.gC T.E_InvalidQuestion.gC gN) B.N rfl (.tail _ (.head _)) (t3_uN B) (hr.mono (by decide)) (show LamS (defScope s__law_scores_right) _ from lamS_by (by decide +kernel)) rfl (fun _ _ _ _ _ => rfl) (fun A' outer' s' H' E' f' c' hr' => (pe_call (G_checked_scores (P := P) (w := w) T) (hr'.mono (by decide)) (by rfl) T.m_checked_scores T.F_checked_scores.kp T.b_checked_scores .nil (passes_call (takes_of rfl rfl rfl rfl) fun _ _ _ _ z => z) (by exact (pa_cons (pv 1) (pa_cons (pe_call (G__law_of T) (hr'.mono (by decide)) (by rfl) T.m__law_of T.F__law_of.kp T.b__law_of .nil pass0 (by exact (pa_cons (pv 0) (pa_cons (pe_lst (pa_cons pe_non (pa_cons pe_int (pa_cons pe_str (pa_cons pe_dnewK (pa_cons pe_bl pa_nil)))))) pa_nil)))) pa_nil))))))) (pe_tup (pa_cons pe_str (pa_cons (pv 4) pa_nil))) (nomark _)))))))))))), ?_⟩
  clear hu
  obtain ⟨p, q, s', vl, k, ws, rfl, W, B0, hv, lw, hQ⟩ := h
  obtain ⟨vlp, vlq, xs, hxs, pxs⟩ := id hv
  have lx := paired_len pxs
  walk_at "rd"
  refine ⟨vl, rfl, ⟨_, SqL.of hxs⟩, fun D hD => ?_⟩
  obtain ⟨Dp, Dq⟩ := W.d.nes hD
  refine lc_list (xs := xs) (fun i H' => Wd (T3 tM tN tR) p q H H' ∧ ∃ ns : List Int, H' D = some (.lst (ns.map V.int)) ∧ ns.length = i ∧ ∀ n ∈ ns, -1000 ≤ n ∧ n ≤ 1000) ⟨W.same (Same.fresh hD), [], upd_same, rfl, by simp⟩ (fun i H' _ pv => SqL.of (pv.1.k.ls _ _ vlp vlq hxs)) (fun i x H1 hx pv => ?_) (fun H1 pv => ?_)
  · obtain ⟨W1, ns, hns, lns, bns⟩ := pv
    walk_at "rd"
    refine ⟨rfl, ?_⟩
    walk_at "rd"
    refine ⟨p, q, 2001, rfl, W1.d, by omega, by omega, fun H2 u d2 f2 u0 u1 => ?_⟩
    have W2 := W1.fix d2 f2
    have hi := (List.getElem?_eq_some_iff.mp hx).1
    have hns2 := f2 _ _ Dp Dq hns
    walk_at "rd"
    refine ⟨ns.map V.int, hns2, Nat.lt_of_le_of_lt (by rw [List.length_map]; omega : (ns.map V.int).length ≤ 1000) (by decide), W2.put hD hns2 Dp Dq, ns ++ [u - 1000], by rw [upd_same]; simp, by simp [lns], fun n hn => ?_⟩
    rcases List.mem_append.mp hn with h | h
    · exact bns n h
    · rw [List.mem_singleton.mp h]; omega
  obtain ⟨W1, ns, hns, lns, bns⟩ := pv
  rw [lx] at lns
  have rp := rep_ints bns (by omega)
  walk_at "rd"
  refine cs_some (B0.kp W1.k) (.lst hns) (by omega) ⟨fun z => absurd lns z, fun _ H2 t S2 ht => ?_⟩
  walk_at "rd"
  refine rd_repr (.tup ht.sq (dA_ints K H2 ns)) rp.s rp.n rp.h rp.l ?_
  walk_at "rd"
  refine rd_tupL (S2 _ _ hns) ?_
  intro t3 H3 n3 S3 e3
  walk_at "rd"
  refine rd_repr (.tup (SqT.of e3) (dA_ints K H3 ns)) rp.s rp.n rp.h rp.l ?_
  refine rd_neS ?_
  walk_at "rd"
  refine iteF' (by simp) ?_
  have W3 := (W1.same S2).same S3
  have hns3 := S3 _ _ (S2 _ _ hns)
  clear ht e3 n3 S3 S2 hns W1
  walk_at "rd"
  refine rd_callK ?_
  walk_at "rd"
  refine rd_tupL hns3 ?_
  intro t4 H4 n4 S4 e4
  walk_at "rd"
  refine ⟨rfl, ?_⟩
  refine cs_some (B0.kp (W3.same S4).k) (.tup (Tup.of e4)) (by omega) ⟨fun z => absurd lns z, fun _ H5 t S5 ht => ?_⟩
  walk_at "rd"
  refine rd_repr (.tup ht.sq (dA_ints K H5 ns)) rp.s rp.n rp.h rp.l ?_
  walk_at "rd"
  refine rd_tupL (S5 _ _ (S4 _ _ hns3)) ?_
  intro t6 H6 n6 S6 e6
  walk_at "rd"
  refine rd_repr (.tup (SqT.of e6) (dA_ints K H6 ns)) rp.s rp.n rp.h rp.l ?_
  refine rd_neS ?_
  walk_at "rd"
  refine iteF' (by simp) ?_
  have W6 := ((W3.same S4).same S5).same S6
  have hns6 := ((S4.trans S5).trans S6) _ _ hns3
  clear ht e6 n6 S6 S5 S4 n4 e4 hns3 W3 rp
  walk_at "rd"
  refine rd_len hns6 ?_
  rw [List.length_map]
  walk_at "rd"
  refine ⟨p, q, _, rfl, W6.d, by omega, by omega, fun H7 u d7 f7 u0 u1 => ?_⟩
  obtain ⟨j, rfl⟩ := Int.eq_ofNat_of_zero_le u0
  have hj : j ≤ ns.length := by omega
  have W7 := W6.fix d7 f7
  have hns7 := f7 _ _ Dp Dq hns6
  walk_at "rd"
  refine rd_len (W7.k.ls _ _ vlp vlq hxs) ?_
  rw [lx]
  clear hns6 W6 d7 f7
  walk_at "rd"
  refine rd_slL hns7 fun b1 G1 m1 R1 t1 => ?_
  have ec : cutV (ns.map V.int) none (some ((j : Nat) : Int)) = (ns.take j).map V.int := by rw [cut_take _ (by omega) (by rw [List.length_map]; omega), List.map_take]; congr 2
  rw [ec] at t1
  walk_at "rd"
  intro c1 G2 m2 R2 t2
  walk_at "rd"
  intro c2 G3 m3 R3 t3
  walk_at "rd"
  intro c3 G4 m4 R4 t4
  have V1 := W7.same R1
  have V2 := V1.same R2
  have V3 := V2.same R3
  have V4 := V3.same R4
  have nc2 := V2.d.nes m3
  have nb1 := W7.d.nes m1
  walk_at "rd"
  refine ⟨p, q, c3, _, rfl, V4.d, (V3.d.nes m4).1, (V3.d.nes m4).2, t4, by show 0 < 5; decide, by show 5 < 1000; decide, fun G5 y hy d5 f5 => ?_⟩
  have V5 := V4.fix d5 f5
  have K45 := Kp.fix V4.d f5
  have bk : ∀ H', Kp p q G5 H' → Kin K H' y none := by
    have t2' := K45.tup (R4 _ _ (R3 _ _ t2))
    have t3' := K45.ls _ _ nc2.1 nc2.2 (R4 _ _ t3)
    simp only [List.mem_cons, List.not_mem_nil, or_false] at hy
    rcases hy with h | h | h | h | h <;> subst h
    · exact fun H' _ => kin_non
    · exact fun H' _ => kin_bl _
    · exact fun H' _ => kin_str _
    · exact fun H' z => kin_tup (z.tup t2')
    · exact fun H' z => kin_lst (z.ls _ _ nc2.1 nc2.2 t3')
  have t1' := K45.ls _ _ nb1.1 nb1.2 (R4 _ _ (R3 _ _ (R2 _ _ t1)))
  have hns5 := K45.ls _ _ Dp Dq (R4 _ _ (R3 _ _ (R2 _ _ (R1 _ _ hns7))))
  clear hy t4 t3 t2 t1 m4 m3 m2 m1 R4 R3 R2 R1 V1 V2 V3 V4 nc2 nb1 K45 d5 f5 hns7 W7
  walk_at "rd"
  intro b2 G6 m6 R6 t6
  refine rd_cat (R6 _ _ t1') t6 (by rw [List.length_map, List.length_take]; show _ + 1 ≤ _; omega) fun b3 G7 m7 R7 t7 => ?_
  walk_at "rd"
  have hns7 := R7 _ _ (R6 _ _ hns5)
  refine rd_slL hns7 fun b4 G8 m8 R8 t8 => ?_
  have ed : cutV (ns.map V.int) (some ((j : Nat) : Int)) none = (ns.drop j).map V.int := by rw [cut_drop _ (by omega) (by rw [List.length_map]; omega), List.map_drop]; congr 2
  rw [ed] at t8
  refine rd_cat (R8 _ _ t7) t8 (by simp only [List.length_append, List.length_map, List.length_take, List.length_drop, List.length_cons, List.length_nil]; omega) fun b5 G9 m9 R9 t9 => ?_
  walk_at "rd"
  intro b6 G10 m10 R10 t10
  walk_at "rd"
  intro b7 G11 m11 R11 t11
  walk_at "rd"
  intro b8 G12 m12 R12 t12
  have V6 := V5.same R6
  have V8 := (V6.same R7).same R8
  have V9 := V8.same R9
  have V10 := V9.same R10
  have V11 := V10.same R11
  have V12 := V11.same R12
  have ne9 := V8.d.nes m9
  have ne10 := V9.d.nes m10
  have ne11 := V10.d.nes m11
  have ne12 := V11.d.nes m12
  have K512 : Kp p q G5 G12 := Kp.same ((((((R6.trans R7).trans R8).trans R9).trans R10).trans R11).trans R12)
  walk_at "rd"
  refine ⟨p, q, 2, rfl, V12.d, by omega, by omega, fun G13 v d13 f13 v0 v1 => ?_⟩
  have V13 := V12.fix d13 f13
  have K13 := Kp.fix V12.d f13
  obtain ⟨l, rfl⟩ := Int.eq_ofNat_of_zero_le v0
  have hl : l < 2 := by omega
  have t9' := K13.ls _ _ ne9.1 ne9.2 (R12 _ _ (R11 _ _ (R10 _ _ t9)))
  have t10' := K13.ls _ _ ne10.1 ne10.2 (R12 _ _ (R11 _ _ t10))
  have t11' := K13.ls _ _ ne11.1 ne11.2 (R12 _ _ t11)
  have t12' := K13.ls _ _ ne12.1 ne12.2 t12
  have hns13 := (K512.trans K13).ls _ _ Dp Dq hns5
  have bk13 : ∀ H', Kp p q G13 H' → Kin K H' y none := fun H' z => bk H' ((K512.trans K13).trans z)
  obtain ⟨bz, hbz, tz⟩ : ∃ bz : Addr, atI [V.ref b6, V.ref b7] ((l : Nat) : Int) = some (.ref bz) ∧ G13 bz = some (.lst (List.replicate l V.non)) := by
    have hl2 : l = 0 ∨ l = 1 := by omega
    rcases hl2 with rfl | rfl
    · exact ⟨b6, atI_at (by decide) (by show (0 : Int) < 2; decide) rfl, t10'⟩
    · exact ⟨b7, atI_at (by decide) (by show (1 : Int) < 2; decide) rfl, t11'⟩
  clear t10' t11' t12 t11 t10 t9 t8 t7 t6 m12 m11 m10 m9 m8 m7 m6 R12 R11 R10 R9 R8 R7 R6 V6 V8 V9 V10 V11 V12 V5 ne9 ne10 ne11 ne12 hns7 hns5 t1' d13 f13 K13 K512 bk
  refine rd_ixL t12' hbz ?_
  refine rd_cat t9' tz (by simp only [List.length_append, List.length_map, List.length_take, List.length_drop, List.length_cons, List.length_nil, List.length_replicate]; omega) fun wr G14 m14 R14 t14 => ?_
  have wne := V13.d.nes m14
  have V14 := V13.same R14
  have hns14 := R14 _ _ hns13
  have hpW : ∀ H', Kp p q G14 H' → Paired (Kin K H') ((((ns.take j).map V.int ++ [y]) ++ (ns.drop j).map V.int) ++ List.replicate l V.non) ((ns.take j).map some ++ none :: ((ns.drop j).map some ++ List.replicate l none)) := fun H' z => by
    have a := paired_app (paired_app (paired_app (kin_all K H' (ns.take j)) (.cons (bk13 H' ((Kp.same R14).trans z)) .nil)) (kin_all K H' (ns.drop j))) (paired_rep (F := Kin K H') kin_non l)
    simpa [List.append_assoc] using a
  have lW : ((((ns.take j).map V.int ++ [y]) ++ (ns.drop j).map V.int) ++ List.replicate l V.non).length < 1000 := by
    simp only [List.length_append, List.length_map, List.length_take, List.length_drop, List.length_cons, List.length_nil, List.length_replicate]; omega
  generalize (((ns.take j).map V.int ++ [y]) ++ (ns.drop j).map V.int) ++ List.replicate l V.non = WR at t14 hpW lW
  have lj : (ns.take j).length = j := by rw [List.length_take]; omega
  clear tz t9' t12' hbz m14 R14 V13 hns13 bk13
  walk_at "rd"
  refine rd_lam V14.t fun L1 eN T1 => rd_ttr ?_
  have Y1 := V14.extN eN T1
  have k1 := Kp.extN (p := p) (q := q) eN
  walk_at "rd"
  refine cs_bad (B0.kp Y1.k) (.lst (k1.ls _ _ wne.1 wne.2 t14)) lW (hpW L1 k1) ?_
  rw [lj]
  refine told_s fun Lb r2 q2 x2 => ?_
  walk_at "rd"
  intro r3 L3 z3 q3 x3
  refine rd_neW lay_score (q3 _ _ x2) x3 ?_
  walk_at "rd"
  try with_reducible refine iteF' rfl ?_
  walk_at "rd"
  have Y3 := (Y1.same q2).same q3
  have hns3 := q3 _ _ (q2 _ _ (k1.ls _ _ Dp Dq hns14))
  clear z3 x3 q3 x2 q2 k1 eN T1 Y1 t14 hpW lW V14 hns14 wne
  refine rd_lam Y3.t fun L4 eN T4 => rd_ttr ?_
  have Y4 := Y3.extN eN T4
  have hns4 := (Kp.extN (p := p) (q := q) eN).ls _ _ Dp Dq hns3
  walk_at "rd"
  intro e5 L5 z5 q5 x5
  refine rd_cat (q5 _ _ hns4) x5 (by rw [List.length_map]; show _ + 1 ≤ _; omega) fun e6 L6 z6 q6 x6 => ?_
  have Y6 := (Y4.same q5).same q6
  have x6' : L6 e6 = some (.lst ((ns ++ [0]).map V.int)) := by rw [x6]; simp
  walk_at "rd"
  refine cs_some (B0.kp Y6.k) (.lst x6') (by rw [List.length_append]; simp; omega) ⟨fun _ => ?_, fun z => absurd z (by rw [List.length_append]; simp; omega)⟩
  refine told_s fun L7 r7 q7 x7 => ?_
  walk_at "rd"
  intro r8 L8 z8 q8 x8
  refine rd_neW lay_score (q8 _ _ x7) x8 ?_
  walk_at "rd"
  try with_reducible refine iteF' rfl ?_
  walk_at "rd"
  have Y8 := (Y6.same q7).same q8
  have hns8 := q8 _ _ (q7 _ _ (q6 _ _ (q5 _ _ hns4)))
  clear z8 x8 q8 x7 q7 x6 x6' z6 q6 x5 z5 q5 hns4 Y6 Y4 eN T4 Y3 hns3
  refine and_rest (fun H' => Wd (T3 tM tN tR) p q H H') (fun H' W9 => ?_) (fun c1 R' hR' => ?_) (fun _ => Y8)
  · refine iteF' rfl ?_
    walk_at "rd"
    refine rd_lam W9.t fun M1 eN T1 => rd_ttr ?_
    have X1 := W9.extN eN T1
    walk_at "rd"
    refine rd_dnew fun c5 M2 z5 P5 y5 => ?_
    walk_at "rd"
    intro c6 M3 z6 P6 y6
    have X2 := X1.same P5
    have X3 := X2.same P6
    walk_at "rd"
    refine ⟨p, q, c6, _, rfl, X3.d, (X2.d.nes z6).1, (X2.d.nes z6).2, y6, by show 0 < 5; decide, by show 5 < 1000; decide, fun M4 y hy d4 f4 => ?_⟩
    have X4 := X3.fix d4 f4
    have nsq : SqX K M4 y none := by
      simp only [List.mem_cons, List.not_mem_nil, or_false] at hy
      rcases hy with h | h | h | h | h <;> subst h
      · exact sq_non
      · exact sq_int _
      · exact sq_str _
      · exact sq_dic ((Kp.fix X3.d f4).dk (P6 _ _ y5))
      · exact sq_bl _
    walk_at "rd"
    refine cs_none (B0.kp X4.k) nsq (told_s fun M5 r5 q5 x5 => ?_)
    walk_at "rd"
    intro r6 M6 z6 q6 x6
    refine rd_eqW lay_score (q6 _ _ x5) x6 ?_
    exact hQ M6 ((X4.same q5).same q6)
  · have c1 := of_decide_eq_true c1
    walk_at "rd"
    refine rd_lam Y8.t fun M1 eN T1 => rd_ttr ?_
    have X1 := Y8.extN eN T1
    have hns9 := (Kp.extN (p := p) (q := q) eN).ls _ _ Dp Dq hns8
    walk_at "rd"
    refine rd_slL hns9 fun b1 G1 m1 R1 t1 => ?_
    rw [cut_tail, ← List.map_drop] at t1
    walk_at "rd"
    refine rd_tupL t1 ?_
    intro t2 G2 m2 R2 y2
    have X2 := (X1.same R1).same R2
    walk_at "rd"
    refine cs_some (B0.kp X2.k) (.tup (Tup.of y2)) (by rw [List.length_drop]; omega) ⟨fun _ => ?_, fun z => absurd z (by rw [List.length_drop]; omega)⟩
    refine told_s fun L7 r7 q7 x7 => ?_
    walk_at "rd"
    intro r8 L8 z8 q8 x8
    refine rd_neW lay_score (q8 _ _ x7) x8 ?_
    walk_at "rd"
    exact hR' _ ((X2.same q7).same q8)
end
end K03

namespace K03
open PySem PySem.Spec PyProof.Rows L2 KX LamX RZ
local macro_rules | `(tactic| walk_at "rd1") => `(tactic| first
  | with_reducible refine rd_seq ?_
  | with_reducible refine rd_for ?_
  | with_reducible refine rd_lc ?_
  | with_reducible refine rd_asg ?_
  | ((with_reducible refine' rd_var ?rdv ?_); (case rdv => exact rfl))
  | with_reducible refine rd_c ?_
  | with_reducible refine rd_op ?_
  | with_reducible refine rd_un ?_
  | with_reducible refine rd_cons ?_
  | with_reducible refine rd_nil ?_
  | with_reducible refine rd_call ?_
  | with_reducible refine rd_cb ?_
  | with_reducible refine rd_tB ?_
  | with_reducible refine rd_test ?_
  | with_reducible refine rd_bl ?_
  | with_reducible refine rd_rI0 ?_
  | with_reducible refine rd_eqI ?_
  | with_reducible refine rd_neI ?_
  | with_reducible refine rd_rU ?_
  | with_reducible refine rd_name ?_
  | with_reducible refine rd_ifs ?_
  | with_reducible refine rd_and ?_
  | with_reducible refine rd_or ?_
  | with_reducible refine rd_not ?_
  | with_reducible refine rd_yes ?_
  | with_reducible refine rd_andV ?_
  | with_reducible refine rd_orV ?_
  | with_reducible refine rd_notV ?_
  | with_reducible refine rd_if ?_
  | with_reducible refine rd_isN ?_
  | with_reducible refine rd_iT ?_
  | with_reducible refine rd_iF ?_
  | with_reducible refine rd_ret ?_
  | with_reducible refine rd_retN ?_
  | with_reducible refine rd_drop ?_
  | with_reducible refine rd_next ?_
  | with_reducible refine rd_cont ?_
  | with_reducible refine rd_brk ?_
  | with_reducible refine rd_nx ?_
  | with_reducible refine rd_rt ?_
  | with_reducible refine rd_ct ?_
  | with_reducible refine rd_bk ?_
  | with_reducible refine rd_par ?_
  | with_reducible refine rd_par3 ?_
  | with_reducible refine rd_par2 ?_
  | with_reducible refine rd_par33 ?_
  | with_reducible refine rd_gcons ?_
  | with_reducible refine rd_gnil ?_
  | with_reducible refine rd_sub ?_
  | with_reducible refine rd_tup ?_
  | with_reducible refine rd_lst ?_
  | ((with_reducible refine rd_tupT ?hl ?_); (case hl => exact Nat.le_of_ble_eq_true rfl))
  | ((with_reducible refine rd_lstT ?hl ?_); (case hl => exact Nat.le_of_ble_eq_true rfl))
  | with_reducible refine rd_bm ?_
  | with_reducible refine rd_bm0 ?_
  | with_reducible refine rd_sl ?_
  | with_reducible refine rd_noP ?_
  | with_reducible refine rd_part ?_
  | with_reducible refine rd_int ?_
  | with_reducible refine rd_int1 ?_
  | with_reducible refine rd_fld ?_
  | with_reducible refine rd_then ?_
  | with_reducible refine rd_raise ?_
  | with_reducible refine rd_one ?_
  | with_reducible refine rd_sfld ?_
  | with_reducible refine rd_ilist ?_
  | with_reducible refine rd_itup ?_
  | with_reducible refine rd_rng1 ?_
  | with_reducible refine rd_enum ?_
  | with_reducible refine rd_enumT ?_)
local macro_rules | `(tactic| walk_at "rd") => `(tactic| repeat (walk_at "rd1"))
theorem rd_ownP {P : Program} {w : World} {K : PySem.W.Frag} {C s1 s2 : Addr} {neg : Bool} {k k' : Int} {bs bs' : List Vw} {H : Hp} {Q : VK} (I : IsCls K C) (h1 : PolAt P w C H s1 k bs) (h2 : PolAt P w C H s2 k' bs') (q : Q (.bl (neg != (decide (k = k') && decide (bs = bs')))) H) : rOwnC K C (spEqP P w K C) neg (.ref s1) (.ref s2) H Q := by
  obtain ⟨dx, _, _, _, hN, _⟩ := id h1
  obtain ⟨dx', _, _, _, hN', _⟩ := id h2
  exact ⟨s1, dx, _, .ref C, rfl, hN, I.ty hN', nf_self, s1, .ref s2, k, bs, rfl, h1, .inr ⟨s2, k', bs', rfl, h2, _, rfl, q⟩⟩
theorem rd_ownPT {P : Program} {w : World} {K : PySem.W.Frag} {C s1 : Addr} {y : V} {n : String} {k : Int} {bs : List Vw} {H : Hp} {Q : VK} (h1 : PolAt P w C H s1 k bs) (ty : TyX K H y (.type n)) (nf : PySem.W.notFirst K C (.type n) = true) (kt : PySem.W.kitOne K (.type n) (.ref C) = some false) (q : Q (.bl (false != false)) H) : rOwnC K C (spEqP P w K C) false (.ref s1) y H Q := by
  obtain ⟨dx, _, _, _, hN, _⟩ := id h1
  exact ⟨s1, dx, _, .type n, rfl, hN, ty, nf, s1, y, k, bs, rfl, h1, .inl ⟨n, ty, kt, _, rfl, q⟩⟩
theorem rd_neB {a b : Bool} {H : Hp} {Q : VK} (h : Q (.bl (a != b)) H) : rNe (.bl a) (.bl b) H Q := by
  refine ⟨rfl, ?_⟩
  have e : (!decide (V.bl a = V.bl b)) = (a != b) := by cases a <;> cases b <;> decide
  rw [e]; exact h
/-! ### texts of policies -/
theorem sm_row {r : List Int} {k : Int} (k4 : k ≤ 4) (l : r.length ≤ 4) (b : ∀ x ∈ r, 0 ≤ x ∧ x < k) : Sm (.tuple (r.map PyData.int)) 48 1 := by
  have a := sm_ints (r := r) fun x hx => by have := b x hx; omega
  refine a.tuple.mono ?_ (Nat.le_refl _)
  rw [List.length_map]; omega
theorem sm_v {c : Vw} {k : Int} (k4 : k ≤ 4) (g : GoodV k c) : Sm (dV c) 98 2 :=
  (SmA.cons ((sm_int g.m0 (by have := g.m1; omega)).mono (w' := 48) (k' := 1) (by decide) (by decide)) (SmA.cons (sm_row k4 g.l g.r) (SmA.nil (w := 49) (k := 1)))).tuple
theorem sm_vs {k : Int} (k4 : k ≤ 4) : ∀ {cs : List Vw}, (∀ c ∈ cs, GoodV k c) → SmA (cs.map dV) 99 2
  | [], _ => .nil
  | c :: cs, h => .cons (sm_v k4 (h c List.mem_cons_self)) (sm_vs k4 fun d hd => h d (List.mem_cons_of_mem _ hd))
theorem rep_vs {cs : List Vw} {k : Int} (k4 : k ≤ 4) (g : ∀ c ∈ cs, GoodV k c) (l : cs.length ≤ 200) : Rep (.tuple (cs.map dV)) := by
  have a := (sm_vs k4 g).tuple
  rw [List.length_map] at a
  exact a.rep (by omega) (by decide)
theorem rep_pol {cs : List Vw} {k : Int} (k0 : 0 ≤ k) (k4 : k ≤ 4) (g : ∀ c ∈ cs, GoodV k c) (l : cs.length ≤ 200) : Rep (.tuple [.int k, .tuple (cs.map dV)]) := by
  have a := (sm_vs k4 g).tuple
  rw [List.length_map] at a
  have b := (SmA.cons ((sm_int k0 (by omega)).mono (w' := 20000) (k' := 3) (by decide) (by decide)) (SmA.cons (a.mono (w' := 20000) (k' := 3) (by omega) (Nat.le_refl _)) (SmA.nil (w := 20001) (k := 3)))).tuple
  exact b.rep (by show 20001 * 2 ≤ _; decide) (by decide)
/-! ### the views at some places -/
theorem pick_congr : ∀ {i : Nat} {ns ms : List Int} {ws : List Vw}, (∀ n, n ∈ ns ↔ n ∈ ms) → pick i ns ws = pick i ms ws
  | _, _, _, [], _ => rfl
  | i, ns, ms, w :: ws, h => by
    unfold pick
    rw [pick_congr (i := i + 1) h]
    by_cases c : ((i : Nat) : Int) ∈ ns
    · rw [if_pos c, if_pos ((h _).mp c)]
    · rw [if_neg c, if_neg fun z => c ((h _).mpr z)]
/-- the views at these places, as they are told one by one -/
def atW (ws : List Vw) (ns : List Int) : List Vw := ns.filterMap fun n : Int => ws[n.toNat]?
theorem pick_none : ∀ {i : Nat} {ns : List Int} {ws : List Vw}, (∀ n ∈ ns, n < (i : Nat)) → pick i ns ws = []
  | _, _, [], _ => rfl
  | i, ns, w :: ws, h => by
    unfold pick
    rw [if_neg fun z => by have := h _ z; omega, pick_none fun n hn => by have := h n hn; omega]
theorem pick_at : ∀ {ws : List Vw} {i : Nat} {ns : List Int}, ns.Pairwise (· < ·) → (∀ n ∈ ns, (i : Nat) ≤ n ∧ n < (i + ws.length : Nat)) → pick i ns ws = ns.filterMap fun n : Int => ws[(n - ((i : Nat) : Int)).toNat]?
  | [], i, ns, _, h => by
    cases ns with
    | nil => rfl
    | cons n ns => have := h n List.mem_cons_self; simp at this; omega
  | w :: ws, i, ns, p, h => by
    cases ns with
    | nil =>
      show (if ((i : Nat) : Int) ∈ ([] : List Int) then _ else pick (i + 1) [] ws) = _
      rw [if_neg (by simp), pick_none (by simp)]; rfl
    | cons n ns =>
      obtain ⟨p1, p2⟩ := List.pairwise_cons.mp p
      have hn := h n List.mem_cons_self
      have sh : ∀ (ms : List Int), (∀ m ∈ ms, ((i : Nat) : Int) < m) → (ms.filterMap fun n : Int => (w :: ws)[(n - ((i : Nat) : Int)).toNat]?) = ms.filterMap fun n : Int => ws[(n - ((i + 1 : Nat) : Int)).toNat]? := by
        intro ms
        induction ms with
        | nil => intro _; rfl
        | cons m ms ih =>
          intro hm
          have h1 := hm m List.mem_cons_self
          have e : (m - ((i : Nat) : Int)).toNat = (m - ((i + 1 : Nat) : Int)).toNat + 1 := by omega
          rw [List.filterMap_cons, List.filterMap_cons, ih fun x hx => hm x (List.mem_cons_of_mem _ hx), e, List.getElem?_cons_succ]
      unfold pick
      by_cases c : n = ((i : Nat) : Int)
      · subst c
        rw [if_pos List.mem_cons_self]
        have tl := pick_at (ws := ws) (i := i + 1) p2 fun m hm => by
          have h1 := p1 m hm
          have h2 := h m (List.mem_cons_of_mem _ hm)
          rw [List.length_cons] at h2
          omega
        have hd : pick (i + 1) (((i : Nat) : Int) :: ns) ws = pick (i + 1) ns ws := by
          have gen : ∀ (ws : List Vw) (j : Nat), i < j → pick j (((i : Nat) : Int) :: ns) ws = pick j ns ws := by
            intro ws
            induction ws with
            | nil => intro _ _; rfl
            | cons v vs ih =>
              intro j hj
              unfold pick
              rw [ih (j + 1) (by omega)]
              by_cases c : ((j : Nat) : Int) ∈ ns
              · rw [if_pos c, if_pos (List.mem_cons_of_mem _ c)]
              · rw [if_neg c, if_neg fun z => by
                  rcases List.mem_cons.mp z with z | z
                  · omega
                  · exact c z]
          exact gen ws (i + 1) (by omega)
        rw [hd, tl, List.filterMap_cons_some (f := fun n : Int => (w :: ws)[(n - ((i : Nat) : Int)).toNat]?) (b := w) (by simp), sh ns fun m hm => p1 m hm]
      · have hi : ((i : Nat) : Int) < n := by omega
        rw [if_neg fun z => by
          rcases List.mem_cons.mp z with z | z
          · exact c z.symm
          · have := p1 _ z; omega]
        rw [pick_at (ws := ws) (i := i + 1) p fun m hm => by
          have h2 := h m hm
          rw [List.length_cons] at h2
          rcases List.mem_cons.mp hm with z | z
          · omega
          · have := p1 m z; omega]
        rw [sh (n :: ns) fun m hm => by
          rcases List.mem_cons.mp hm with z | z
          · omega
          · have := p1 m z; omega]
theorem pick_atW {ws : List Vw} {ns : List Int} (p : ns.Pairwise (· < ·)) (h : ∀ n ∈ ns, 0 ≤ n ∧ n < ws.length) : pick 0 ns ws = atW ws ns := by
  have z := pick_at (ws := ws) (i := 0) (ns := ns) p fun n hn => by have := h n hn; omega
  rw [z]
  unfold atW
  congr 1
  funext n
  congr 1
  show (n - ((0 : Nat) : Int)).toNat = n.toNat
  omega
theorem atW_len {ws : List Vw} : ∀ {ns : List Int}, (∀ n ∈ ns, 0 ≤ n ∧ n < ws.length) → (atW ws ns).length = ns.length
  | [], _ => rfl
  | n :: ns, h => by
    have h1 := h n List.mem_cons_self
    have hl : n.toNat < ws.length := by omega
    unfold atW
    rw [List.filterMap_cons_some (f := fun n : Int => ws[n.toNat]?) (b := ws[n.toNat]) (List.getElem?_eq_getElem hl), List.length_cons, List.length_cons]
    have := atW_len (ws := ws) fun m hm => h m (List.mem_cons_of_mem _ hm)
    unfold atW at this
    rw [this]
def spPR (P : Program) (w : World) (K : PySem.W.Frag) (C tM tN tR : Addr) : L2.Sp := fun vs H Q _ => ∃ (p q s vl : Addr) (k : Int) (ws : List Vw), vs = [.ref p, .ref s, .int k, .ref vl] ∧ Wd (T3 tM tN tR) p q H H ∧ PolAt P w C H s k ws ∧ VL p q H vl ws ∧ 1 ≤ k ∧ k ≤ 4 ∧ (ws.Pairwise fun a b => leV a b = true) ∧ ws.Nodup ∧ (∀ w ∈ ws, GoodV k w) ∧ ws.length ≤ 20 ∧ ∀ H', Wd (T3 tM tN tR) p q H H' → Q (.bl true) H'
theorem kb_part {K : PySem.W.Frag} {mg : Str → Option Value} (T : TX K mg) : KBn K T.d_part ["policy", "places"] 0 ["places", "policy"] (fun _ ws => match ws with | [v0, v1] => [v1, v0] | ws => ws) (fun _ ws => match ws with | [v0, v1] => [v1, v0] | ws => ws) := by
  obtain ⟨oc, od, kV, doc, pm, an, cdv, ct, osl, e, lk, hcd⟩ := T.F_part.ex
  rw [e]
  refine ⟨fun s us ws _ h0 h2 => ?_, fun {vs us zs ws} _ r => ?_⟩
  · match us, ws, h0, h2 with
    | [], [v0, v1], _, _ => exact .of_eq rfl
  · exact match r with
      | .nil => .nil
      | .cons a0 (.nil) => .cons a0 (.nil)
      | .cons a0 (.cons a1 (.nil)) => .cons a1 (.cons a0 (.nil))
      | .cons a0 (.cons a1 (.cons a2 (r))) => .cons a0 (.cons a1 (.cons a2 (r)))
section
variable {P : Program} {w : World} {K : PySem.W.Frag} {C CQ s : Addr} {H : Hp} {Q : VK} {E : XK} {x : V} {k : Int} {ws : List Vw}
/-- a part that is told -/
theorem part_some {ns : List Int} (B : PolAt P w C H s k ws) (k1 : 1 ≤ k) (k4 : k ≤ 4) (gw : ∀ w ∈ ws, GoodV k w) (nd : ws.Nodup) (lw : ws.length < 1000) (hx : SqX K H x (some (ns.map V.int))) (l : ns.length < 1000) (hb : ∀ n ∈ ns, 0 ≤ n ∧ n < ws.length) (h : ∀ H' s', Same H H' → PolAt P w C H' s' k (sortV (pick 0 ns ws)) → Q (.ref s') H') : spPart P w K C CQ [.ref s, x] H Q E := by
  refine ⟨s, k, ws, x, some (ns.map V.int), rfl, B, k1, k4, gw, nd, lw, hx, fun e => (by cases e), fun xs e => ?_⟩
  cases e
  refine ⟨by rw [List.length_map]; omega, ns.map some, kin_all K H ns, fun i m hi hm _ => ?_, fun ms e _ => ?_⟩
  · rw [List.getElem?_map] at hi
    obtain ⟨n, hn, rfl⟩ := Option.map_eq_some_iff.mp hi
    have := hb n (List.mem_of_getElem? hn)
    rw [belB_iff.mpr this] at hm; cases hm
  · have e : ns = ms := by
      have inj : ∀ {a b : List Int}, a.map some = b.map some → a = b := fun {a b} h => by
        have := congrArg (List.filterMap id) h
        simpa [List.filterMap_map] using this
      exact inj e
    subst e
    exact h
theorem part_none (B : PolAt P w C H s k ws) (k1 : 1 ≤ k) (k4 : k ≤ 4) (gw : ∀ w ∈ ws, GoodV k w) (nd : ws.Nodup) (lw : ws.length < 1000) (hx : SqX K H x none) (hE : ErrAt CQ E H 0) : spPart P w K C CQ [.ref s, x] H Q E :=
  ⟨s, k, ws, x, none, rfl, B, k1, k4, gw, nd, lw, hx, fun _ => hE, fun xs e => by cases e⟩
theorem part_bad {xs : List V} {A : List Int} {c : Option Int} {R : List (Option Int)} (B : PolAt P w C H s k ws) (k1 : 1 ≤ k) (k4 : k ≤ 4) (gw : ∀ w ∈ ws, GoodV k w) (nd : ws.Nodup) (lw : ws.length < 1000) (hx : SqX K H x (some xs)) (l : xs.length < 1000) (hp : Paired (Kin K H) xs (A.map some ++ c :: R)) (hA : ∀ n ∈ A, 0 ≤ n ∧ n < ws.length) (hc : belB c ws.length = false) (hE : ErrAt CQ E H (A.length : Nat)) : spPart P w K C CQ [.ref s, x] H Q E := by
  have at' : (A.map some ++ c :: R)[A.length]? = some c := by
    rw [List.getElem?_append_right (by rw [List.length_map]; omega), List.length_map, Nat.sub_self]; rfl
  refine ⟨s, k, ws, x, some xs, rfl, B, k1, k4, gw, nd, lw, hx, fun e => (by cases e), fun ys e => ?_⟩
  cases e
  refine ⟨l, _, hp, fun i m hi hm h => ?_, fun ms e hms => ?_⟩
  · have ei : i = A.length := by
      rcases Nat.lt_trichotomy i A.length with z | z | z
      · rw [List.getElem?_append_left (by rw [List.length_map]; exact z), List.getElem?_map, List.getElem?_eq_getElem z] at hi
        cases hi
        rw [belB_iff.mpr (hA _ (List.getElem_mem z))] at hm; cases hm
      · exact z
      · obtain ⟨m', h1, h2⟩ := h A.length z
        rw [at'] at h1
        cases h1
        rw [h2] at hc; cases hc
    rw [ei]; exact hE
  · exfalso
    rw [e, List.getElem?_map] at at'
    obtain ⟨n, hn, rfl⟩ := Option.map_eq_some_iff.mp at'
    rw [belB_iff.mpr (hms n (List.mem_of_getElem? hn))] at hc; cases hc
end
section
variable {P : Program} {w : World} {K : PySem.W.Frag} {mg : Str → Option Value} {base : Heap} (T : TX K mg)
theorem G__law_part_right {cM tM cN tN cR tR CN : Addr} (B : Tb base mg cM tM cN tN cR tR) (IR : IsR K T.c_InvalidPolicy T.c_InvalidView T.c_InvalidScore T.c_InvalidQuestion) (gN : mg "NetError" = some (.ref CN)) (DC : DefC K "_law_part_right" s__law_part_right T.f__law_part_right cR T.d__law_part_right) :
    FnR P w K mg base CX0 (CG 14) T.f__law_part_right T.d__law_part_right ["deal", "policy", "kinds", "views"] (spPR P w K T.c_Policy tM tN tR) := by
  have bR := T.b__law_refused
  obtain ⟨oc', od', kV', doc', pm', an', cdv', ct', osl', eR, lkR, hcR⟩ := T.F__law_refused.ex
  rw [eR] at bR lkR
  obtain ⟨oc, od, kV, doc, pm, an, ct, osl, eF, lk, hcd⟩ := DC
  rw [eF] at lk
  rw [eF]
  refine fnG_of lk hcd sc__law_part_right (fun vs H Q E h => ?_) fun A outer s H vs Q E hr hg h => ?_
  · obtain ⟨p, q, s, vl, k, ws, rfl, _⟩ := h
    rfl
  have hu : (A.deeper (envOfC "_law_part_right" (defScope s__law_part_right) s.heap.objs.size T.f__law_part_right (.ref cR))).units + 66 < cLine := by
    have := hr.un
    omega
  refine ⟨_, PSs.nox (pss_cons (ps_setLc (i := 5) (own := [("at", 4)]) (by rfl) sc__law_part_right.nd rfl rfl (sw_true rfl rfl rfl (by decide +kernel)) (pi_range1 (by rfl) T.n_range (by exact (pa_cons (pe_callB (cr_lenK (K := K)) (by rfl) T.n_len (by decide +kernel) (by exact (pa_cons (pv 3) pa_nil))) pa_nil))) (blkOk_by (own := [("at", 4)]) (N := N__law_part_right) (sc := defScope s__law_part_right) (by decide +kernel)) (fun _ _ _ _ _ => (pg_name (i := 4) sc__law_part_right.nd rfl (.inl rfl))) (fun _ _ _ _ _ => pts_one (pt_cmpR op_eq (pe_call (G__law_any T) (hr.mono (by decide)) (by rfl) T.m__law_any T.F__law_any.kp T.b__law_any .nil pass0 (by exact (pa_cons (pv 0) (pa_cons pe_int pa_nil)))) pe_int (nomark _))) (fun _ _ _ _ _ => (pv 4)) ) (pss_cons (ps_set (i := 6) sc__law_part_right.nd rfl (.inl rfl) (pe_op op_cat (pe_call (G__law_mixed T) (hr.mono (by decide)) (by rfl) T.m__law_mixed T.F__law_mixed.kp T.b__law_mixed .nil pass0 (by exact (pa_cons (pv 0) (pa_cons (pv 5) pa_nil)))) (pe_slice (sl_listK (K := K)) (pv 5) po_none (po_some (pe_call (G__law_any T) (hr.mono (by decide)) (by rfl) T.m__law_any T.F__law_any.kp T.b__law_any .nil pass0 (by exact (pa_cons (pv 0) (pa_cons pe_int pa_nil)))))))) (pss_cons (ps_set (i := 7) sc__law_part_right.nd rfl (.inl rfl) (pe_call (G_part (P := P) (w := w) T) (hr.mono (by decide)) (by rfl) T.m_part T.F_part.kp T.b_part .nil passL (by exact (pa_cons (pv 1) (pa_cons (pv 6) pa_nil))))) (pss_cons (ps_if (pt_cmpR op_ne (pe_callB (cr_reprK (K := K) hg hu) (by rfl) T.n_repr (by decide +kernel) (by exact (pa_cons (pe_tup (pa_cons (pe_fldK (K := K) (pv 7)) (pa_cons (pe_fldK (K := K) (pv 7)) pa_nil))) pa_nil))) (pe_callB (cr_reprK (K := K) hg hu) (by rfl) T.n_repr (by decide +kernel) (by exact (pa_cons (pe_tup (pa_cons (pv 2) (pa_cons (pe_tupleK (K := K) (by rfl) T.n_tuple (by exact (pe_lc (own := [("at", 4)]) (by rfl) sc__law_part_right.nd (pi_listK (K := K) (pv 5)) (blkOk_by (own := [("at", 4)]) (N := N__law_part_right) (sc := defScope s__law_part_right) (by decide +kernel)) (fun _ _ _ _ _ => (pg_name (i := 4) sc__law_part_right.nd rfl (.inl rfl))) (fun _ _ _ _ _ => pts_nil) (fun _ _ _ _ _ => (pe_ix (ix_listK (K := K)) (pv 3) (pv 4) (fun _ _ => rfl))) ))) pa_nil))) pa_nil))) (nomark _)) (pss_one (ps_ret pe_bl)) pss_nil) (pss_cons (ps_if (PW.pt (pw_or (pt_cmpR (op_ownNeK (K := K) (sp := spEqP P w K T.c_Policy) T.O_Policy (G_Policy_eq T) T.b_Policy_eq (hr.mono (by decide))) (pe_callK (G_part (P := P) (w := w) T) (hr.mono (by decide)) (by rfl) T.m_part T.F_part.kp (kb_part T) passL (by exact (pk_cons (pe_tupleK (K := K) (by rfl) T.n_tuple (pv 6)) (pk_cons (pv 1) pk_nil)))) (pv 7) (nomark _)) (pw_or1 (pt_cmpR op_ne (pe_cmpR (op_ownEqK (K := K) (sp := spEqP P w K T.c_Policy) T.O_Policy (G_Policy_eq T) T.b_Policy_eq (hr.mono (by decide))) (pv 7) (pv 1) (nomark _)) (pe_cmpR op_eq (pe_callB (cr_lenK (K := K)) (by rfl) T.n_len (by decide +kernel) (by exact (pa_cons (pv 5) pa_nil))) (pe_callB (cr_lenK (K := K)) (by rfl) T.n_len (by decide +kernel) (by exact (pa_cons (pv 3) pa_nil))) (nomark _)) (nomark _))))) (pss_one (ps_ret pe_bl)) pss_nil) (pss_cons (ps_set (i := 4) sc__law_part_right.nd rfl (.inl rfl) (pe_call (G__law_any T) (hr.mono (by decide)) (by rfl) T.m__law_any T.F__law_any.kp T.b__law_any .nil pass0 (by exact (pa_cons (pv 0) (pa_cons (pe_op op_add (pe_callB (cr_lenK (K := K)) (by rfl) T.n_len (by decide +kernel) (by exact (pa_cons (pv 6) pa_nil))) pe_int) pa_nil))))) (pss_cons (ps_set (i := 8) sc__law_part_right.nd rfl (.inr rfl) (pe_op op_cat (pe_op op_cat (pe_slice (sl_listK (K := K)) (pv 6) po_none (po_some (pv 4))) (pe_lst (pa_cons (pe_call (G__law_of T) (hr.mono (by decide)) (by rfl) T.m__law_of T.F__law_of.kp T.b__law_of .nil pass0 (by exact (pa_cons (pv 0) (pa_cons (pe_lst (pa_cons (pe_callB (cr_lenK (K := K)) (by rfl) T.n_len (by decide +kernel) (by exact (pa_cons (pv 3) pa_nil))) (pa_cons (pe_op op_sub pe_int pe_int) (pa_cons pe_non (pa_cons pe_bl (pa_cons pe_str (pa_cons (pe_tup (pa_cons pe_int pa_nil)) pa_nil))))))) pa_nil)))) pa_nil))) (pe_slice (sl_listK (K := K)) (pv 6) (po_some (pv 4)) po_none))) (pss_cons (ps_if (pt_cmpR (op_neDK (K := K) hr.units) (by exact (pe_lamcall (T := (T3 tM tN tR)) (TT := TTr T.c_InvalidPolicy T.c_InvalidView T.c_InvalidScore T.c_InvalidQuestion) (Ng := ["work", "e"]) (a := "work") (k := 11) (by rfl) T.m__law_refused T.F__law_refused.kp lkR hcR bR sc__law_refused rfl (.inl rfl) (gives IR T.E_InvalidPolicy.gC T.E_InvalidView.gC T.E_InvalidScore.gC T.E_InvalidQuestion.gC gN) B.R rfl (.tail _ (.tail _ (.head _))) (t3_uR B) (hr.mono (by decide)) (show LamS (defScope s__law_part_right) _ from lamS_by (by decide +kernel)) rfl (fun _ _ _ _ _ => rfl) (fun A' outer' s' H' E' f' c' hr' => (pe_call (G_part (P := P) (w := w) T) (hr'.mono (by decide)) (by rfl) T.m_part T.F_part.kp T.b_part .nil (passes_call (takes_of rfl rfl rfl rfl) fun _ _ _ _ z => z) (by exact (pa_cons (pv 1) (pa_cons (pv 8) pa_nil))))))) (pe_tup (pa_cons pe_str (pa_cons (pv 4) pa_nil))) (nomark _)) (pss_one (ps_ret pe_bl)) pss_nil) (pss_one (ps_ret (pe_cmpR (op_eqDK (K := K) hr.units) (by exact (pe_lamcall (T := (T3 tM tN tR)) (TT := TTr T.c_InvalidPolicy T.c_InvalidView T.c_InvalidScore T.c_InvalidQuestion) (Ng := ["work", "e"]) (a := "work") (k := 11) (by rfl) T.m__law_refused T.F__law_refused.kp lkR hcR bR sc__law_refused rfl (.inl rfl) (gives IR T.E_InvalidPolicy.gC T.E_InvalidView.gC T.E_InvalidScore.gC T.E_InvalidQuestion.gC gN) B.R rfl (.tail _ (.tail _ (.head _))) (t3_uR B) (hr.mono (by decide)) (show LamS (defScope s__law_part_right) _ from lamS_by (by decide +kernel)) rfl (fun _ _ _ _ _ => rfl) (fun A' outer' s' H' E' f' c' hr' => (pe_call (G_part (P := P) (w := w) T) (hr'.mono (by decide)) (by rfl) T.m_part T.F_part.kp T.b_part .nil (passes_call (takes_of rfl rfl rfl rfl) fun _ _ _ _ z => z) (by exact (pa_cons (pv 1) (pa_cons (pe_call (G__law_of T) (hr'.mono (by decide)) (by rfl) T.m__law_of T.F__law_of.kp T.b__law_of .nil pass0 (by exact (pa_cons (pv 0) (pa_cons (pe_lst (pa_cons pe_non (pa_cons pe_int (pa_cons pe_str (pa_cons pe_dnewK pa_nil))))) pa_nil)))) pa_nil))))))) (pe_tup (pa_cons pe_str (pa_cons pe_int pa_nil))) (nomark _)))))))))))), ?_⟩
  clear hu
  obtain ⟨p, q, s', vl, k, ws, rfl, W, B0, hv, k1, k4, srt, nd, gw, lw, hQ⟩ := h
  obtain ⟨vlp, vlq, xs, hxs, pxs⟩ := id hv
  have lx := paired_len pxs
  walk_at "rd"
  refine rd_len hxs ?_
  rw [lx]
  walk_at "rd"
  refine ⟨by omega, by omega, fun D hD => ?_⟩
  obtain ⟨Dp, Dq⟩ := W.d.nes hD
  refine lc_range (lo := 0) (n := ws.length) (fun i H' => Wd (T3 tM tN tR) p q H H' ∧ ∃ ns : List Int, H' D = some (.lst (ns.map V.int)) ∧ ns.length ≤ i ∧ (∀ n ∈ ns, 0 ≤ n ∧ n < i) ∧ ns.Pairwise (· < ·))
    ⟨W.same (Same.fresh hD), [], upd_same, Nat.le_refl _, by simp, .nil⟩ (fun i H1 hi pv => ?_) (fun H1 pv => ?_)
  · obtain ⟨W1, ns, hns, lns, bns, sns⟩ := pv
    walk_at "rd"
    refine ⟨rfl, ?_⟩
    walk_at "rd"
    refine ⟨p, q, 2, rfl, W1.d, by omega, by omega, fun H2 u d2 f2 u0 u1 => ?_⟩
    have W2 := W1.fix d2 f2
    have hns2 := f2 _ _ Dp Dq hns
    walk_at "rd"
    by_cases c : u = 0
    · refine iteT' (decide_eq_true c) ?_
      walk_at "rd"
      refine ⟨ns.map V.int, hns2, Nat.lt_of_le_of_lt (by rw [List.length_map]; omega : (ns.map V.int).length ≤ 1000) (by decide), W2.put hD hns2 Dp Dq, ns ++ [((i : Nat) : Int)], by rw [upd_same]; simp, by simp; omega, fun n hn => ?_, ?_⟩
      · rcases List.mem_append.mp hn with h | h
        · have := bns n h; omega
        · rw [List.mem_singleton.mp h]; omega
      · refine List.pairwise_append.mpr ⟨sns, by simp, fun a ha b hb => ?_⟩
        rw [List.mem_singleton.mp hb]
        exact (bns a ha).2
    · refine iteF' (decide_eq_false c) ?_
      exact ⟨W2, ns, hns2, by omega, fun n hn => by have := bns n hn; omega, sns⟩
  obtain ⟨W1, ns, hns, lns, bns, sns⟩ := pv
  walk_at "rd"
  refine ⟨p, q, D, ns.map V.int, ns.map Sum.inl, rfl, W1.d, hns, its_i ns, by rw [List.length_map]; omega, fun H2 l ys js d2 f2 l0 lp lq pj pys hl => ?_⟩
  obtain ⟨ms, rfl, pms⟩ := perm_inl pj
  obtain rfl := i_its pys
  have W2 := W1.fix d2 f2
  have hns2 := f2 _ _ Dp Dq hns
  have lms := pms.length_eq
  walk_at "rd"
  refine ⟨p, q, 2, rfl, W2.d, by omega, by omega, fun H3 v d3 f3 v0 v1 => ?_⟩
  obtain ⟨c, rfl⟩ := Int.eq_ofNat_of_zero_le v0
  have hc2 : c < 2 := by omega
  have W3 := W2.fix d3 f3
  have hns3 := f3 _ _ Dp Dq hns2
  have hl3 := f3 _ _ lp lq hl
  refine ⟨_, rfl, rd_slL hns3 fun a4 H4 n4 S4 e4 => ?_⟩
  have ec : cutV (ns.map V.int) none (some ((c : Nat) : Int)) = (ns.take c).map V.int := by
    rcases Nat.lt_or_ge ns.length c with z | z
    · have hn0 : ns = [] := List.length_eq_zero_iff.mp (by omega)
      rw [hn0]
      have hc3 : c = 0 ∨ c = 1 := by omega
      rcases hc3 with rfl | rfl <;> rfl
    · rw [cut_take _ (by omega) (by rw [List.length_map]; omega), List.map_take]; congr 2
  rw [ec] at e4
  refine rd_cat (S4 _ _ hl3) e4 (by simp only [List.length_map, List.length_take]; omega) fun a5 H5 n5 S5 e5 => ?_
  rw [← List.map_append] at e5
  have W5 := (W3.same S4).same S5
  have ne5 := (W3.same S4).d.nes n5
  have hns5 := (S4.trans S5) _ _ hns3
  have mem5 : ∀ n, n ∈ ms ++ ns.take c ↔ n ∈ ns := fun n => by
    rw [List.mem_append, pms.mem_iff]
    exact ⟨fun h => h.elim id fun h => List.mem_of_mem_take h, fun h => .inl h⟩
  have b5 : ∀ n ∈ ms ++ ns.take c, 0 ≤ n ∧ n < ws.length := fun n hn => bns n ((mem5 n).mp hn)
  have l5 : (ms ++ ns.take c).length < 900 := by rw [List.length_append, List.length_take]; omega
  generalize ms ++ ns.take c = as at e5 mem5 b5 l5
  clear e4 n4 S4 S5 n5 hl3 hns3 W3 d3 f3 hl hns2 W2 d2 f2 pj pys pms lms l0 hns W1 ec
  have epk : sortV (pick 0 as ws) = atW ws ns := by
    rw [pick_congr mem5, ← pick_atW sns bns]
    exact sortV_of (List.Perm.refl _) (srt.sublist (pick_sub 0 ns ws))
  have lat := atW_len bns
  have gat : ∀ w ∈ atW ws ns, GoodV k w := fun w hw => by
    rw [← epk] at hw
    exact gw w ((pick_sub 0 as ws).mem ((sortV_perm _).mem_iff.mp hw))
  walk_at "rd"
  refine part_some (B0.kp W5.k) k1 k4 gw nd (by omega) (.lst e5) (by omega) b5 fun H6 s6 S6 B6 => ?_
  rw [epk] at B6
  have W6 := W5.same S6
  have e6 := S6 _ _ e5
  have hns6 := S6 _ _ hns5
  clear S6 hns5 e5 W5
  walk_at "rd"
  obtain ⟨dx, t, d, ys, hp, ht, hys, hd⟩ := id B6
  refine ⟨s6, _, dx, _, _, rfl, hp, T.C_Policy, T.A_Policy_modes, look_pm, ?_⟩
  walk_at "rd"
  refine ⟨s6, _, dx, _, _, rfl, hp, T.C_Policy, T.A_Policy_views, look_pv, ?_⟩
  walk_at "rd"
  intro t7 H7 n7 S7 e7
  have rp := rep_pol (cs := atW ws ns) (by omega) k4 gat (by omega)
  walk_at "rd"
  refine rd_repr (.tup (SqT.of e7) (.cons (.int k) (.cons (.tup (ht.same S7).sq (dp_vs (paired_mono hys fun _ _ z => z.same S7))) .nil))) rp.s rp.n rp.h rp.l ?_
  have W7 := W6.same S7
  have hns7 := S7 _ _ hns6
  have hx7 := W7.k.ls _ _ vlp vlq hxs
  have px7 : Paired (VAt H7) xs ws := paired_mono pxs fun _ _ z => z.kp W7.k
  walk_at "rd"
  refine ⟨D, rfl, ⟨_, SqL.of hns7⟩, fun M hM => ?_⟩
  refine lc_list (xs := ns.map V.int) (fun i H' => Same H7 H' ∧ ∃ zs, H' M = some (.lst zs) ∧ Paired (VAt H7) zs (atW ws (ns.take i)) ∧ zs.length ≤ i) ⟨Same.fresh hM, [], upd_same, .nil, Nat.le_refl _⟩ (fun i H' _ pv => SqL.of (pv.1 _ _ hns7)) (fun i x H8 hx pv => ?_) (fun H8 pv => ?_)
  · obtain ⟨S8, zs, hzs, pz, lz⟩ := pv
    rw [List.getElem?_map] at hx
    obtain ⟨n, hn, rfl⟩ := Option.map_eq_some_iff.mp hx
    have bn := bns n (List.mem_of_getElem? hn)
    have hi := (List.getElem?_eq_some_iff.mp hn).1
    have hl : n.toNat < ws.length := by omega
    have hxn : xs[n.toNat]? = some (xs[n.toNat]'(by omega)) := List.getElem?_eq_getElem (by omega)
    obtain ⟨w1, hw1, hxw⟩ := paired_get px7 hxn
    walk_at "rd"
    refine ⟨rfl, ?_⟩
    walk_at "rd"
    refine rd_ixL (S8 _ _ hx7) (atI_at bn.1 (by omega) hxn) ?_
    refine ⟨zs, hzs, Nat.lt_of_le_of_lt (by omega : zs.length ≤ 1000) (by decide), same_put S8 hM, _, upd_same, ?_, by rw [List.length_append]; simp; omega⟩
    have ea : atW ws (ns.take (i + 1)) = atW ws (ns.take i) ++ [w1] := by
      unfold atW
      rw [List.take_succ, hn, List.filterMap_append]
      congr 1
      show [n].filterMap _ = _
      rw [List.filterMap_cons_some (f := fun n : Int => ws[n.toNat]?) (b := w1) hw1]; rfl
    rw [ea]
    exact Paired.snoc pz hxw
  obtain ⟨S8, zs, hzs, pz, lz⟩ := pv
  rw [List.length_map, List.take_length] at pz
  walk_at "rd"
  refine rd_tupL hzs ?_
  intro t9 H9 n9 S9 e9
  walk_at "rd"
  intro t10 H10 n10 S10 e10
  have S710 := (S8.trans S9).trans S10
  walk_at "rd"
  refine rd_repr (.tup (SqT.of e10) (.cons (.int k) (.cons (.tup (SqT.of (S10 _ _ e9)) (dp_vs (paired_mono pz fun _ _ z => z.same S710))) .nil))) rp.s rp.n rp.h rp.l ?_
  refine rd_neS ?_
  walk_at "rd"
  refine iteF' (by simp) ?_
  have W10 := W7.same S710
  have B10 := B6.same (S7.trans S710)
  have e10' := S710 _ _ (S7 _ _ e6)
  have hns10 := S710 _ _ (S7 _ _ hns6)
  clear e9 e10 n9 n10 S9 S10 pz hzs lz hM S8 S710 rp px7 hx7 hns7 W7 e7 n7 S7 hp ht hys hd B6 e6 hns6 W6
  walk_at "rd"
  refine rd_callK ?_
  walk_at "rd"
  refine rd_tupL e10' ?_
  intro t11 H11 n11 S11 e11
  walk_at "rd"
  refine ⟨rfl, ?_⟩
  have W11 := W10.same S11
  refine part_some (B0.kp W11.k) k1 k4 gw nd (by omega) (.tup (Tup.of e11)) (by omega) b5 fun H12 s12 S12 B12 => ?_
  rw [epk] at B12
  have W12 := W11.same S12
  have B12' := B10.same (S11.trans S12)
  have e12 := (S11.trans S12) _ _ e10'
  have hns12 := (S11.trans S12) _ _ hns10
  clear e11 n11 S11 S12 W11 W10 B10 e10' hns10
  walk_at "rd"
  refine rd_ownP T.I_Policy B12 B12' ?_
  rw [decide_eq_true rfl, decide_eq_true rfl]
  walk_at "rd"
  refine iteF' rfl ?_
  walk_at "rd"
  refine rd_ownP T.I_Policy B12' (B0.kp W12.k) ?_
  walk_at "rd"
  refine rd_len hns12 ?_
  walk_at "rd"
  refine rd_len (W12.k.ls _ _ vlp vlq hxs) ?_
  walk_at "rd"
  have eb : (false != (decide (k = k) && decide (atW ws ns = ws))) = decide ((((ns.map V.int).length : Nat) : Int) = ((xs.length : Nat) : Int)) := by
    rw [decide_eq_true rfl, Bool.true_and, List.length_map, lx]
    by_cases z : atW ws ns = ws
    · rw [decide_eq_true z]
      have : ns.length = ws.length := by rw [← lat, z]
      rw [decide_eq_true (by omega)]; rfl
    · rw [decide_eq_false z]
      have h : ¬ ((ns.length : Nat) : Int) = ((ws.length : Nat) : Int) := fun e => z (by
        rw [← pick_atW sns bns]
        exact (pick_sub 0 ns ws).eq_of_length (by rw [pick_atW sns bns, lat]; omega))
      rw [decide_eq_false h]; rfl
  rw [eb]
  refine rd_neB ?_
  rw [bne_self_eq_false]
  walk_at "rd"
  try with_reducible refine ⟨_, rfl, ?_⟩
  try with_reducible refine iteF' rfl ?_
  walk_at "rd"
  clear eb B12 B12'
  refine rd_len e12 ?_
  rw [List.length_map]
  walk_at "rd"
  refine ⟨p, q, _, rfl, W12.d, by omega, by omega, fun H13 u d13 f13 u0 u1 => ?_⟩
  obtain ⟨j, rfl⟩ := Int.eq_ofNat_of_zero_le u0
  have hj : j ≤ as.length := by omega
  have W13 := W12.fix d13 f13
  have e13 := f13 _ _ ne5.1 ne5.2 e12
  clear d13 f13 e12 hns12 W12
  walk_at "rd"
  refine rd_slL e13 fun b1 G1 m1 R1 t1 => ?_
  have ec : cutV (as.map V.int) none (some ((j : Nat) : Int)) = (as.take j).map V.int := by rw [cut_take _ (by omega) (by rw [List.length_map]; omega), List.map_take]; congr 2
  rw [ec] at t1
  walk_at "rd"
  have V1 := W13.same R1
  refine rd_len (V1.k.ls _ _ vlp vlq hxs) ?_
  rw [lx]
  walk_at "rd"
  intro c1 G2 m2 R2 t2
  walk_at "rd"
  intro c3 G4 m4 R4 t4
  have V3 := V1.same R2
  have V4 := V3.same R4
  have nb1 := W13.d.nes m1
  walk_at "rd"
  refine ⟨p, q, c3, _, rfl, V4.d, (V3.d.nes m4).1, (V3.d.nes m4).2, t4, by show 0 < 6; decide, by show 6 < 1000; decide, fun G5 y hy d5 f5 => ?_⟩
  have V5 := V4.fix d5 f5
  have K45 := Kp.fix V4.d f5
  obtain ⟨o0, ho0, bk⟩ : ∃ o0 : Option Int, belB o0 ws.length = false ∧ ∀ H', Kp p q G5 H' → Kin K H' y o0 := by
    have t2' := K45.tup (R4 _ _ t2)
    simp only [List.mem_cons, List.not_mem_nil, or_false] at hy
    rcases hy with h | h | h | h | h | h <;> subst h
    · exact ⟨some ((ws.length : Nat) : Int), by simp [belB], fun H' _ => .int _⟩
    · exact ⟨some (0 - 1), by simp [belB], fun H' _ => .int _⟩
    · exact ⟨none, rfl, fun H' _ => kin_non⟩
    · exact ⟨none, rfl, fun H' _ => kin_bl _⟩
    · exact ⟨none, rfl, fun H' _ => kin_str _⟩
    · exact ⟨none, rfl, fun H' z => kin_tup (z.tup t2')⟩
  have t1' := K45.ls _ _ nb1.1 nb1.2 (R4 _ _ (R2 _ _ t1))
  have e5 := K45.ls _ _ ne5.1 ne5.2 (R4 _ _ (R2 _ _ (R1 _ _ e13)))
  clear hy t4 t2 t1 m4 m2 m1 R4 R2 R1 V1 V3 V4 nb1 K45 d5 f5 e13 W13 ec
  walk_at "rd"
  intro b2 G6 m6 R6 t6
  refine rd_cat (R6 _ _ t1') t6 (by rw [List.length_map, List.length_take]; show _ + 1 ≤ _; omega) fun b3 G7 m7 R7 t7 => ?_
  walk_at "rd"
  have e7 := R7 _ _ (R6 _ _ e5)
  refine rd_slL e7 fun b4 G8 m8 R8 t8 => ?_
  have ed : cutV (as.map V.int) (some ((j : Nat) : Int)) none = (as.drop j).map V.int := by rw [cut_drop _ (by omega) (by rw [List.length_map]; omega), List.map_drop]; congr 2
  rw [ed] at t8
  refine rd_cat (R8 _ _ t7) t8 (by simp only [List.length_append, List.length_map, List.length_take, List.length_drop, List.length_cons, List.length_nil]; omega) fun wr G9 m9 R9 t9 => ?_
  have V8 := ((V5.same R6).same R7).same R8
  have V9 := V8.same R9
  have wne := V8.d.nes m9
  have K59 : Kp p q G5 G9 := Kp.same (((R6.trans R7).trans R8).trans R9)
  have hpW : ∀ H', Kp p q G9 H' → Paired (Kin K H') (((as.take j).map V.int ++ [y]) ++ (as.drop j).map V.int) ((as.take j).map some ++ o0 :: (as.drop j).map some) := fun H' z => by
    have a := paired_app (paired_app (kin_all K H' (as.take j)) (.cons (bk H' (K59.trans z)) .nil)) (kin_all K H' (as.drop j))
    simpa [List.append_assoc] using a
  have lW : (((as.take j).map V.int ++ [y]) ++ (as.drop j).map V.int).length < 1000 := by
    simp only [List.length_append, List.length_map, List.length_take, List.length_drop, List.length_cons, List.length_nil]
    omega
  generalize ((as.take j).map V.int ++ [y]) ++ (as.drop j).map V.int = WR at t9 hpW lW
  have lj : (as.take j).length = j := by rw [List.length_take]; omega
  clear t8 t7 t6 m9 m8 m7 m6 R9 R8 R7 R6 V8 V5 e7 e5 t1' K59 bk ed
  walk_at "rd"
  refine rd_lam V9.t fun L1 eN T1 => rd_ttr ?_
  have Y1 := V9.extN eN T1
  have kx := Kp.extN (p := p) (q := q) eN
  walk_at "rd"
  refine part_bad (A := as.take j) (B0.kp Y1.k) k1 k4 gw nd (by omega) (.lst (kx.ls _ _ wne.1 wne.2 t9)) lW (hpW L1 kx) (fun n hn => b5 n (List.mem_of_mem_take hn)) ho0 ?_
  rw [lj]
  refine told_q fun Lb r2 q2 x2 => ?_
  walk_at "rd"
  intro r3 L3 z3 q3 x3
  refine rd_neW lay_question (q3 _ _ x2) x3 ?_
  walk_at "rd"
  try with_reducible refine iteF' rfl ?_
  walk_at "rd"
  have W9 := (Y1.same q2).same q3
  clear z3 x3 q3 x2 q2 kx eN T1 Y1 t9 hpW lW V9 wne
  refine rd_lam W9.t fun M1 eN T1 => rd_ttr ?_
  have X1 := W9.extN eN T1
  walk_at "rd"
  refine rd_dnew fun c5 M2 z5 P5 y5 => ?_
  walk_at "rd"
  intro c6 M3 z6 P6 y6
  have X2 := X1.same P5
  have X3 := X2.same P6
  walk_at "rd"
  refine ⟨p, q, c6, _, rfl, X3.d, (X2.d.nes z6).1, (X2.d.nes z6).2, y6, by show 0 < 4; decide, by show 4 < 1000; decide, fun M4 y hy d4 f4 => ?_⟩
  have X4 := X3.fix d4 f4
  have nsq : SqX K M4 y none := by
    simp only [List.mem_cons, List.not_mem_nil, or_false] at hy
    rcases hy with h | h | h | h <;> subst h
    · exact sq_non
    · exact sq_int _
    · exact sq_str _
    · exact sq_dic ((Kp.fix X3.d f4).dk (P6 _ _ y5))
  walk_at "rd"
  refine part_none (B0.kp X4.k) k1 k4 gw nd (by omega) nsq (told_q fun M5 r5 q5 x5 => ?_)
  walk_at "rd"
  intro r6 M6 z6 q6 x6
  refine rd_eqW lay_question (q6 _ _ x5) x6 ?_
  exact hQ M6 ((X4.same q5).same q6)
end
end K03

namespace K03
open PySem PySem.Spec PyProof.Rows L2 KX LamX RZ
local macro_rules | `(tactic| walk_at "rd1") => `(tactic| first
  | with_reducible refine rd_seq ?_
  | with_reducible refine rd_for ?_
  | with_reducible refine rd_lc ?_
  | with_reducible refine rd_asg ?_
  | ((with_reducible refine' rd_var ?rdv ?_); (case rdv => exact rfl))
  | with_reducible refine rd_c ?_
  | with_reducible refine rd_op ?_
  | with_reducible refine rd_un ?_
  | with_reducible refine rd_cons ?_
  | with_reducible refine rd_nil ?_
  | with_reducible refine rd_call ?_
  | with_reducible refine rd_cb ?_
  | with_reducible refine rd_tB ?_
  | with_reducible refine rd_test ?_
  | with_reducible refine rd_bl ?_
  | with_reducible refine rd_rI0 ?_
  | with_reducible refine rd_eqI ?_
  | with_reducible refine rd_neI ?_
  | with_reducible refine rd_rU ?_
  | with_reducible refine rd_name ?_
  | with_reducible refine rd_ifs ?_
  | with_reducible refine rd_and ?_
  | with_reducible refine rd_or ?_
  | with_reducible refine rd_not ?_
  | with_reducible refine rd_yes ?_
  | with_reducible refine rd_andV ?_
  | with_reducible refine rd_orV ?_
  | with_reducible refine rd_notV ?_
  | with_reducible refine rd_if ?_
  | with_reducible refine rd_isN ?_
  | with_reducible refine rd_iT ?_
  | with_reducible refine rd_iF ?_
  | with_reducible refine rd_ret ?_
  | with_reducible refine rd_retN ?_
  | with_reducible refine rd_drop ?_
  | with_reducible refine rd_next ?_
  | with_reducible refine rd_cont ?_
  | with_reducible refine rd_brk ?_
  | with_reducible refine rd_nx ?_
  | with_reducible refine rd_rt ?_
  | with_reducible refine rd_ct ?_
  | with_reducible refine rd_bk ?_
  | with_reducible refine rd_par ?_
  | with_reducible refine rd_par3 ?_
  | with_reducible refine rd_par2 ?_
  | with_reducible refine rd_par33 ?_
  | with_reducible refine rd_gcons ?_
  | with_reducible refine rd_gnil ?_
  | with_reducible refine rd_sub ?_
  | with_reducible refine rd_tup ?_
  | with_reducible refine rd_lst ?_
  | ((with_reducible refine rd_tupT ?hl ?_); (case hl => exact Nat.le_of_ble_eq_true rfl))
  | ((with_reducible refine rd_lstT ?hl ?_); (case hl => exact Nat.le_of_ble_eq_true rfl))
  | with_reducible refine rd_bm ?_
  | with_reducible refine rd_bm0 ?_
  | with_reducible refine rd_sl ?_
  | with_reducible refine rd_noP ?_
  | with_reducible refine rd_part ?_
  | with_reducible refine rd_int ?_
  | with_reducible refine rd_int1 ?_
  | with_reducible refine rd_fld ?_
  | with_reducible refine rd_then ?_
  | with_reducible refine rd_raise ?_
  | with_reducible refine rd_one ?_
  | with_reducible refine rd_sfld ?_
  | with_reducible refine rd_ilist ?_
  | with_reducible refine rd_itup ?_
  | with_reducible refine rd_rng1 ?_
  | with_reducible refine rd_enum ?_
  | with_reducible refine rd_enumT ?_)
local macro_rules | `(tactic| walk_at "rd") => `(tactic| repeat (walk_at "rd1"))
/-! ### all rows, in order -/
def lastI (r : List Int) : Int := r.getLast?.getD 0
def extR (k : Nat) (r : List Int) : List (List Int) := (List.range (k - (lastI r).toNat)).map fun i => r ++ [lastI r + ((i : Nat) : Int)]
def rowsN (k : Nat) : Nat → List (List Int)
  | 0 => [[]]
  | n + 1 => (rowsN k n).flatMap (extR k)
structure RowOk (k n : Nat) (r : List Int) : Prop where
  l : r.length = n
  s : r.Pairwise (· ≤ ·)
  b : ∀ x ∈ r, 0 ≤ x ∧ x < (k : Nat)
theorem lastI_snoc (r : List Int) (x : Int) : lastI (r ++ [x]) = x := by unfold lastI; simp
theorem RowOk.last {k n : Nat} {r : List Int} (h : RowOk k n r) (k0 : 0 < k) : 0 ≤ lastI r ∧ lastI r < (k : Nat) ∧ ∀ x ∈ r, x ≤ lastI r := by
  rcases List.eq_nil_or_concat r with e | ⟨i, x, e⟩
  · subst e
    exact ⟨by decide, by show (0 : Int) < _; omega, by simp⟩
  · have e : r = i ++ [x] := by simpa using e
    subst e
    rw [lastI_snoc]
    have hb := h.b x (by simp)
    refine ⟨hb.1, hb.2, fun y hy => ?_⟩
    rcases List.mem_append.mp hy with z | z
    · exact (List.pairwise_append.mp h.s).2.2 y z x (by simp)
    · rw [List.mem_singleton.mp z]; omega
theorem ext_ok {k n : Nat} {r : List Int} (h : RowOk k n r) (k0 : 0 < k) : ∀ s ∈ extR k r, RowOk k (n + 1) s := fun s hs => by
  obtain ⟨i, hi, rfl⟩ := List.mem_map.mp hs
  have hi := List.mem_range.mp hi
  obtain ⟨l0, l1, l2⟩ := h.last k0
  refine ⟨by simp [h.l], List.pairwise_append.mpr ⟨h.s, by simp, fun a ha b hb => ?_⟩, fun x hx => ?_⟩
  · rw [List.mem_singleton.mp hb]; have := l2 a ha; omega
  · rcases List.mem_append.mp hx with z | z
    · exact h.b x z
    · rw [List.mem_singleton.mp z]; omega
theorem rows_ok {k : Nat} (k0 : 0 < k) : ∀ n, ∀ r ∈ rowsN k n, RowOk k n r
  | 0, r, h => by
    rw [List.mem_singleton.mp h]
    exact ⟨rfl, .nil, by simp⟩
  | n + 1, r, h => by
    obtain ⟨q, hq, hr⟩ := List.mem_flatMap.mp h
    exact ext_ok (rows_ok k0 n q hq) k0 r hr
/-- rows in the order of their numbers -/
def ltR : List Int → List Int → Prop
  | [], _ => False
  | _ :: _, [] => False
  | x :: r, y :: s => x < y ∨ x = y ∧ ltR r s
theorem ltR_app : ∀ {r s a b : List Int}, r.length = s.length → ltR r s → ltR (r ++ a) (s ++ b)
  | [], _, _, _, _, h => h.elim
  | _ :: _, [], _, _, l, _ => by simp at l
  | x :: r, y :: s, a, b, l, h => by
    rcases h with h | ⟨h1, h2⟩
    · exact .inl h
    · exact .inr ⟨h1, ltR_app (by simpa using l) h2⟩
theorem ltR_pre : ∀ (r : List Int) {a b : List Int}, ltR a b → ltR (r ++ a) (r ++ b)
  | [], _, _, h => h
  | x :: r, _, _, h => .inr ⟨rfl, ltR_pre r h⟩
theorem ltR_irr : ∀ r : List Int, ¬ ltR r r
  | [], h => h
  | x :: r, h => by
    rcases h with h | ⟨_, h⟩
    · omega
    · exact ltR_irr r h
theorem rows_lt {k : Nat} (k0 : 0 < k) : ∀ n, (rowsN k n).Pairwise ltR
  | 0 => List.pairwise_singleton _ _
  | n + 1 => by
    refine List.pairwise_flatMap.mpr ⟨fun r hr => ?_, (rows_lt k0 n).imp_of_mem fun {r s} hr hs h x hx y hy => ?_⟩
    · refine List.pairwise_map.mpr ((List.pairwise_lt_range).imp fun h => ltR_pre r ?_)
      exact .inl (by omega)
    · obtain ⟨i, _, rfl⟩ := List.mem_map.mp hx
      obtain ⟨j, _, rfl⟩ := List.mem_map.mp hy
      exact ltR_app (by rw [(rows_ok k0 n r hr).l, (rows_ok k0 n s hs).l]) h
theorem rows_len {k : Nat} (k4 : k ≤ 4) : ∀ n, (rowsN k n).length ≤ 4 ^ n
  | 0 => Nat.le_refl _
  | n + 1 => by
    have ih := rows_len k4 n
    show ((rowsN k n).flatMap (extR k)).length ≤ _
    have gen : ∀ L : List (List Int), (L.flatMap (extR k)).length ≤ 4 * L.length := by
      intro L
      induction L with
      | nil => exact Nat.le_refl _
      | cons r L ih =>
        rw [List.flatMap_cons, List.length_append, List.length_cons]
        have : (extR k r).length ≤ 4 := by unfold extR; rw [List.length_map, List.length_range]; omega
        omega
    have := gen (rowsN k n)
    rw [Nat.pow_succ]; omega
theorem rows_pos {k : Nat} (k0 : 0 < k) : ∀ n, 0 < (rowsN k n).length
  | 0 => by show 0 < 1; decide
  | n + 1 => by
    obtain ⟨r, hr⟩ := List.exists_mem_of_length_pos (rows_pos k0 n)
    obtain ⟨l0, l1, _⟩ := (rows_ok k0 n r hr).last k0
    have : r ++ [lastI r + ((0 : Nat) : Int)] ∈ rowsN k (n + 1) := List.mem_flatMap.mpr ⟨r, hr, List.mem_map.mpr ⟨0, List.mem_range.mpr (by omega), rfl⟩⟩
    exact List.length_pos_of_mem this
theorem rows_35 {k n : Nat} (k1 : 1 ≤ k) (k4 : k ≤ 4) (n4 : n ≤ 4) : (rowsN k n).length ≤ 35 := by
  have hk : k = 1 ∨ k = 2 ∨ k = 3 ∨ k = 4 := by omega
  have hn : n = 0 ∨ n = 1 ∨ n = 2 ∨ n = 3 ∨ n = 4 := by omega
  rcases hk with rfl | rfl | rfl | rfl <;> rcases hn with rfl | rfl | rfl | rfl | rfl <;> decide +kernel
/-- all views with so many neighbours -/
def viewsN (k n : Nat) : List Vw := (List.range k).flatMap fun m : Nat => (rowsN k n).map fun r => (((m : Nat) : Int), r)
def ltV (a b : Vw) : Prop := a.1 < b.1 ∨ a.1 = b.1 ∧ ltR a.2 b.2
theorem toks_lt : ∀ {r s : List Int} (a b : List (Int ⊕ List Nat)), ltR r s → r.length = s.length → PyProof.Rows.lexLt PyProof.Rows.itemOrd (rowToks s ++ b) (rowToks r ++ a) = false
  | [], _, _, _, h, _ => h.elim
  | _ :: _, [], _, _, _, l => by simp at l
  | x :: r, y :: s, a, b, h, l => by
    have e1 : rowToks (x :: r) ++ a = ([.inl 1] ++ (.inl x :: (rowToks r ++ a)) : List (Int ⊕ List Nat)) := rfl
    have e2 : rowToks (y :: s) ++ b = ([.inl 1] ++ (.inl y :: (rowToks s ++ b)) : List (Int ⊕ List Nat)) := rfl
    rw [e1, e2, PySem.W.lex_pre]
    rcases h with h | ⟨h1, h2⟩
    · rw [PyProof.Rows.lex_diff (O := PyProof.Rows.itemOrd) (fun z => by cases z; omega)]
      show decide (y < x) = false
      exact decide_eq_false (by omega)
    · subst h1
      have := toks_lt a b h2 (by simpa using l)
      have e3 : ∀ c : List (Int ⊕ List Nat), (.inl x :: c : List (Int ⊕ List Nat)) = [.inl x] ++ c := fun _ => rfl
      rw [e3 (rowToks r ++ a), e3 (rowToks s ++ b), PySem.W.lex_pre]
      exact this
theorem leV_lt {a b : Vw} (h : ltV a b) (l : a.2.length = b.2.length) : leV a b = true := by
  have e : leV a b = !PyProof.Rows.lexLt PyProof.Rows.itemOrd (PySem.W.keyToks (dV b)) (PySem.W.keyToks (dV a)) := rfl
  rw [e, toks_v, toks_v]
  obtain ⟨m, r⟩ := a
  obtain ⟨m', s⟩ := b
  show (!PyProof.Rows.lexLt PyProof.Rows.itemOrd ([.inl 1] ++ (.inl m' :: (.inl 1 :: (rowToks s ++ [.inl 0])))) ([.inl 1] ++ (.inl m :: (.inl 1 :: (rowToks r ++ [.inl 0]))))) = true
  rw [PySem.W.lex_pre]
  rcases h with h | ⟨h1, h2⟩
  · have h : m < m' := h
    rw [PyProof.Rows.lex_diff (O := PyProof.Rows.itemOrd) (fun z => by cases z; omega)]
    show (!decide (m' < m)) = true
    rw [decide_eq_false (by omega)]; rfl
  · have h1 : m = m' := h1
    subst h1
    show (!PyProof.Rows.lexLt PyProof.Rows.itemOrd ([.inl m, .inl 1] ++ (rowToks s ++ [.inl 0])) ([.inl m, .inl 1] ++ (rowToks r ++ [.inl 0]))) = true
    rw [PySem.W.lex_pre, toks_lt _ _ h2 l]; rfl
theorem views_lt {k : Nat} (k0 : 0 < k) (n : Nat) : (viewsN k n).Pairwise ltV := by
  refine List.pairwise_flatMap.mpr ⟨fun m _ => List.pairwise_map.mpr ((rows_lt k0 n).imp fun h => .inr ⟨rfl, h⟩), (List.pairwise_lt_range).imp fun {i j} h x hx y hy => ?_⟩
  obtain ⟨r, _, rfl⟩ := List.mem_map.mp hx
  obtain ⟨s, _, rfl⟩ := List.mem_map.mp hy
  exact .inl (by show ((i : Nat) : Int) < ((j : Nat) : Int); omega)
theorem views_mem {k n : Nat} {w : Vw} (h : w ∈ viewsN k n) : 0 ≤ w.1 ∧ w.1 < (k : Nat) ∧ w.2 ∈ rowsN k n := by
  obtain ⟨m, hm, h⟩ := List.mem_flatMap.mp h
  obtain ⟨r, hr, rfl⟩ := List.mem_map.mp h
  have hm := List.mem_range.mp hm
  exact ⟨by show (0 : Int) ≤ ((m : Nat) : Int); omega, by show ((m : Nat) : Int) < _; omega, hr⟩
theorem views_le {k : Nat} (k0 : 0 < k) (n : Nat) : (viewsN k n).Pairwise fun a b => leV a b = true :=
  (views_lt k0 n).imp_of_mem fun {a b} ha hb h => leV_lt h (by rw [(rows_ok k0 n _ (views_mem ha).2.2).l, (rows_ok k0 n _ (views_mem hb).2.2).l])
theorem views_nd {k : Nat} (k0 : 0 < k) (n : Nat) : (viewsN k n).Nodup := (views_lt k0 n).imp fun {a b} h e => by
  subst e
  rcases h with h | ⟨_, h⟩
  · omega
  · exact ltR_irr _ h
theorem views_good {k n : Nat} (k0 : 0 < k) (n4 : n ≤ 4) : ∀ w ∈ viewsN k n, GoodV (k : Nat) w := fun w hw => by
  obtain ⟨a, b, c⟩ := views_mem hw
  have h := rows_ok k0 n _ c
  exact ⟨a, b, h.b, by rw [h.l]; exact n4, h.s⟩
theorem views_len {k n : Nat} : (viewsN k n).length = k * (rowsN k n).length := by
  unfold viewsN
  have gen : ∀ L : List Nat, (L.flatMap fun m : Nat => (rowsN k n).map fun r => ((((m : Nat) : Int), r) : Vw)).length = L.length * (rowsN k n).length := by
    intro L
    induction L with
    | nil => simp
    | cons m L ih => rw [List.flatMap_cons, List.length_append, ih, List.length_map, List.length_cons, Nat.succ_mul]; omega
  rw [gen, List.length_range]
/-! ### the law's own -/
def RwAt (H : Hp) (x : V) (r : List Int) : Prop := ∃ a, x = .ref a ∧ Tup H a (r.map V.int)
theorem RwAt.same {H H' : Hp} {x : V} {r : List Int} (h : RwAt H x r) (s : Same H H') : RwAt H' x r := by
  obtain ⟨a, e, h⟩ := h
  exact ⟨a, e, h.same s⟩
theorem rd_lstRg {ta : TE} {σ : L2.St} {H : Hp} {Q : VK} (h : ta σ H fun x H1 => ∃ n, x = .int n ∧ RgOk 0 n ∧ ∀ q, H1 q = none → Q (.ref q) (upd H1 q (.lst (rgV 0 n)))) : tLstRg (tRg1 ta) σ H Q := h
theorem rd_tupRg {ta : TE} {σ : L2.St} {H : Hp} {Q : VK} (h : ta σ H fun x H1 => ∃ n, x = .int n ∧ RgOk 0 n ∧ ∀ q, H1 q = none → Q (.ref q) (upd H1 q (.tup (rgV 0 n)))) : tTupRg (tRg1 ta) σ H Q := h
def rangeI (n : Nat) : List Int := (List.range n).map fun i : Nat => ((i : Nat) : Int)
theorem rg_ints (n : Nat) : rgV 0 ((n : Nat) : Int) = (rangeI n).map V.int := by
  unfold rgV rangeI
  rw [List.map_map]
  have : (((n : Nat) : Int) - 0).toNat = n := by omega
  rw [this]
  congr 1
  funext i
  show V.int (0 + ((i : Nat) : Int)) = V.int ((i : Nat) : Int)
  rw [Int.zero_add]
theorem range_b {n : Nat} (h : n ≤ 1000) : ∀ x ∈ rangeI n, -1000 ≤ x ∧ x ≤ 1000 := fun x hx => by
  obtain ⟨i, hi, rfl⟩ := List.mem_map.mp hx
  have := List.mem_range.mp hi
  omega
theorem range_len (n : Nat) : (rangeI n).length = n := by unfold rangeI; simp
theorem rd_rng2 {ta : TA} {σ : L2.St} {H : Hp} {R : It → Hp → Prop} (h : ta σ H fun vs H1 => ∃ i j : Int, vs = [.int i, .int j] ∧ (-(2 ^ 62) ≤ i ∧ i < 2 ^ 62 ∧ -(2 ^ 62) ≤ j ∧ j < 2 ^ 62) ∧ R (Itr i (j - i).toNat) H1) : iRng2 ta σ H R := h
def spAR : L2.Sp := fun vs H Q _ => ∃ (p q : Addr) (k n : Nat), vs = [.ref p, .int (k : Nat), .int (n : Nat)] ∧ Deal H p q ∧ 1 ≤ k ∧ k ≤ 4 ∧ n ≤ 4 ∧ ∀ H', Q (.bl true) H'
section
variable {P : Program} {w : World} {K : PySem.W.Frag} {mg : Str → Option Value} {base : Heap} (T : TX K mg)
theorem G__law_all_right : FnR P w K mg base CX0 (CG 14) T.f__law_all_right T.d__law_all_right ["deal", "kinds", "many"] spAR := by
  obtain ⟨oc, od, kV, doc, pm, an, cdv, ct, osl, eF, lk, hcd⟩ := T.F__law_all_right.ex
  rw [eF] at lk
  rw [eF]
  refine fnG_of lk hcd sc__law_all_right (fun vs H Q E h => ?_) fun A outer s H vs Q E hr hg h => ?_
  · obtain ⟨p, q, k, n, rfl, _⟩ := h
    rfl
  have hu : (A.deeper (envOfC "_law_all_right" (defScope s__law_all_right) s.heap.objs.size T.f__law_all_right cdv)).units + 66 < cLine := by
    have := hr.un
    omega
  refine ⟨_, PSs.nox (pss_cons (ps_par (i := 3) (j := 4) (by rfl) sc__law_all_right.nd rfl rfl (by decide) rfl rfl (pa_cons (pe_lst (pa_cons (pe_tup pa_nil) pa_nil)) (pa_cons (pe_lst pa_nil) pa_nil)) (by rfl)) (pss_cons (ps_for PassesOwn.never rfl (pi_range1 (by rfl) T.n_range (by exact (pa_cons (pv 2) pa_nil))) (pg_name (i := 5) sc__law_all_right.nd rfl (.inl rfl)) (pss_cons (ps_set (i := 6) sc__law_all_right.nd rfl (.inl rfl) (pe_lst pa_nil)) (pss_cons (ps_for PassesOwn.never rfl (pi_listK (K := K) (pv 3)) (pg_name (i := 7) sc__law_all_right.nd rfl (.inr rfl)) (pss_one (ps_set (i := 6) sc__law_all_right.nd rfl (.inl rfl) (pe_op op_cat (pv 6) (by exact (pe_lc (own := [("mode", 8)]) (by rfl) sc__law_all_right.nd (pi_range2 (by rfl) T.n_range (by exact (pa_cons (pe_ifExp (pt_cmpR (op_neDK (K := K) hr.units) (pv 7) (pe_tup pa_nil) (nomark _)) (pe_ix (ix_tupK (K := K)) (pv 7) (pe_un un_neg pe_int) (fun _ _ => rfl)) pe_int) (pa_cons (pv 1) pa_nil)))) (blkOk_by (own := [("mode", 8)]) (N := N__law_all_right) (sc := defScope s__law_all_right) (by decide +kernel)) (fun _ _ _ _ _ => (pg_name (i := 8) sc__law_all_right.nd rfl (.inl rfl))) (fun _ _ _ _ _ => pts_nil) (fun _ _ _ _ _ => (pe_op op_catW (pv 7) (pe_tup (pa_cons (pv 8) pa_nil)))) )))))) (pss_one (ps_set (i := 3) sc__law_all_right.nd rfl (.inl rfl) (pv 6)))))) (pss_cons (ps_for PassesOwn.never rfl (pi_range1 (by rfl) T.n_range (by exact (pa_cons (pv 1) pa_nil))) (pg_name (i := 8) sc__law_all_right.nd rfl (.inr rfl)) (pss_one (ps_set (i := 4) sc__law_all_right.nd rfl (.inl rfl) (pe_op op_cat (pv 4) (by exact (pe_lc (own := [("row", 7)]) (by rfl) sc__law_all_right.nd (pi_listK (K := K) (pv 3)) (blkOk_by (own := [("row", 7)]) (N := N__law_all_right) (sc := defScope s__law_all_right) (by decide +kernel)) (fun _ _ _ _ _ => (pg_name (i := 7) sc__law_all_right.nd rfl (.inl rfl))) (fun _ _ _ _ _ => pts_nil) (fun _ _ _ _ _ => (pe_tup (pa_cons (pv 8) (pa_cons (pv 7) pa_nil)))) )))))) (pss_cons (ps_par (i := 9) (j := 10) (by rfl) sc__law_all_right.nd rfl rfl (by decide) rfl rfl (pa_cons (pe_make T.M_Policy (G_Policy_init (P := P) (w := w) T) (hr.mono (by decide)) (by rfl) T.m_Policy T.b_Policy_init .nil passL (by exact (pa_cons (pv 1) (pa_cons (pe_revLB (K := K) (pv 4)) pa_nil)))) (pa_cons (pe_call (G__law_any T) (hr.mono (by decide)) (by rfl) T.m__law_any T.F__law_any.kp T.b__law_any .nil pass0 (by exact (pa_cons (pv 0) (pa_cons (pe_callB (cr_lenK (K := K)) (by rfl) T.n_len (by decide +kernel) (by exact (pa_cons (pv 4) pa_nil))) pa_nil)))) pa_nil)) (by rfl)) (pss_cons (ps_if (PW.pt (pw_or (pt_cmpR op_ne (pe_callB (cr_reprK (K := K) hg hu) (by rfl) T.n_repr (by decide +kernel) (by exact (pa_cons (pe_fldK (K := K) (pv 9)) pa_nil))) (pe_callB (cr_reprK (K := K) hg hu) (by rfl) T.n_repr (by decide +kernel) (by exact (pa_cons (pe_tupleK (K := K) (by rfl) T.n_tuple (pv 4)) pa_nil))) (nomark _)) (pw_or1 (pt_cmpR op_ne (pe_callB (cr_reprK (K := K) hg hu) (by rfl) T.n_repr (by decide +kernel) (by exact (pa_cons (pe_meth (pv 9) T.C_Policy T.H_Policy_spot (G_Policy_spot (P := P) (w := w) T) (hr.mono (by decide)) T.b_Policy_spot .nil pass0 (by exact (pa_cons (pe_ix (ix_listK (K := K)) (pv 4) (pv 10) (fun _ _ => rfl)) pa_nil))) pa_nil))) (pe_callB (cr_reprK (K := K) hg hu) (by rfl) T.n_repr (by decide +kernel) (by exact (pa_cons (pv 10) pa_nil))) (nomark _))))) (pss_one (ps_ret pe_bl)) pss_nil) (pss_one (ps_ret (pe_cmpR op_eq (pe_callB (cr_reprK (K := K) hg hu) (by rfl) T.n_repr (by decide +kernel) (by exact (pa_cons (pe_call (G_checked_scores (P := P) (w := w) T) (hr.mono (by decide)) (by rfl) T.m_checked_scores T.F_checked_scores.kp T.b_checked_scores .nil passL (by exact (pa_cons (pv 9) (pa_cons (pe_listRg rfl (by rfl) T.n_list (prg_1 (by rfl) T.n_range (pe_callB (cr_lenK (K := K)) (by rfl) T.n_len (by decide +kernel) (by exact (pa_cons (pv 4) pa_nil))))) pa_nil)))) pa_nil))) (pe_callB (cr_reprK (K := K) hg hu) (by rfl) T.n_repr (by decide +kernel) (by exact (pa_cons (pe_tupRg rfl (by rfl) T.n_tuple (prg_1 (by rfl) T.n_range (pe_callB (cr_lenK (K := K)) (by rfl) T.n_len (by decide +kernel) (by exact (pa_cons (pv 4) pa_nil))))) pa_nil))) (nomark _))))))))), ?_⟩
  clear hu
  obtain ⟨p, q, k, n, rfl, d0, k1, k4, n4, hQ⟩ := h
  walk_at "rd"
  intro a1 H1 n1 S1 e1
  walk_at "rd"
  intro rl H2 n2 S2 e2
  walk_at "rd"
  intro vl H3 n3 S3 e3
  have d3 := ((d0.same S1).same S2).same S3
  obtain ⟨vlp, vlq⟩ := ((d0.same S1).same S2).nes n3
  have x3 : RwAt H3 (.ref a1) [] := ⟨a1, rfl, Tup.of (S3 _ _ (S2 _ _ e1))⟩
  have r3 := S3 _ _ e2
  have k0 : 0 < k := by omega
  clear e1 e2 n1 n2 S1 S2 n3 S3
  walk_at "rd"
  refine ⟨by omega, by omega, ?_⟩
  refine for_range (lo := 0) (n := n) (fun i σ H' => ∃ rl, (∃ o5 o6 o7 o8 o9 o10, σ = [some (.ref p), some (.int ((k : Nat) : Int)), some (.int ((n : Nat) : Int)), some (.ref rl), some (.ref vl), o5, o6, o7, o8, o9, o10]) ∧ Same H3 H' ∧ ∃ xs, H' rl = some (.lst xs) ∧ Paired (RwAt H') xs (rowsN k i))
    ⟨rl, ⟨_, _, _, _, _, _, rfl⟩, Same.refl _, _, r3, .cons x3 .nil⟩ (fun i σ H4 hi pv => ?_) (fun σ H4 pv => ?_)
  · obtain ⟨rl, ⟨o5, o6, o7, o8, o9, o10, rfl⟩, S4, xs, hrl, pxs⟩ := pv
    have lxs := paired_len pxs
    have lr := rows_len k4 i
    have l256 : 4 ^ i ≤ 4 ^ 4 := Nat.pow_le_pow_right (by decide) (by omega)
    have l256 : 4 ^ i ≤ 256 := l256
    walk_at "rd"
    intro lg H5 n5 S5 e5
    walk_at "rd"
    refine ⟨rl, rfl, ⟨_, SqL.of (S5 _ _ hrl)⟩, for_list (xs := xs) (fun j σ H' => ∃ lg, (∃ o7 o8 o9 o10, σ = [some (.ref p), some (.int ((k : Nat) : Int)), some (.int ((n : Nat) : Int)), some (.ref rl), some (.ref vl), some (.int (0 + ((i : Nat) : Int))), some (.ref lg), o7, o8, o9, o10]) ∧ Same H4 H' ∧ ∃ ys, H' lg = some (.lst ys) ∧ Paired (RwAt H') ys (((rowsN k i).take j).flatMap (extR k)) ∧ ys.length ≤ 4 * j)
      ⟨lg, ⟨_, _, _, _, rfl⟩, S5, [], e5, .nil, by simp⟩ (fun j σ H' _ pv => by obtain ⟨_, _, S, _⟩ := pv; exact SqL.of (S _ _ hrl)) (fun j x σ H6 hx pv => ?_) (fun σ H6 pv => ?_)⟩
    · obtain ⟨lg, ⟨o7, o8, o9, o10, rfl⟩, S6, ys, hlg, pys, lys⟩ := pv
      obtain ⟨r, hr6, xr⟩ := paired_get pxs hx
      have hj := (List.getElem?_eq_some_iff.mp hx).1
      have ok := rows_ok k0 i r (List.mem_of_getElem? hr6)
      obtain ⟨l0, l1, _⟩ := ok.last k0
      obtain ⟨ra, rfl, hra⟩ := xr.same S6
      walk_at "rd"
      refine rd_rng2 ?_
      walk_at "rd"
      intro e7a H7 n7 S7 e7
      have hra7 := hra.same S7
      refine ⟨.tuple (r.map PyData.int), .tuple ([] : List PyData), .tup hra7.sq (dA_ints K H7 r), .tup (SqT.of e7) .nil, sh_ints r, by decide, ?_⟩
      walk_at "rd"
      refine tif_rest (fun x H' => x = .int (lastI r) ∧ H' = H7) (fun x H' => ?_) (fun b1 Q' hQ' => ?_) (fun b1 Q' hQ' => ?_)
      rotate_left
      · walk_at "rd"
        rcases List.eq_nil_or_concat r with e | ⟨ri, rx, e⟩
        · subst e; cases b1
        · have e : r = ri ++ [rx] := by simpa using e
          subst e
          refine rd_ixT hra7 (v := .int rx) (by rw [List.map_append]; exact atI_last _ _) ?_
          exact hQ' _ _ ⟨by rw [lastI_snoc], rfl⟩
      · walk_at "rd"
        rcases List.eq_nil_or_concat r with e | ⟨ri, rx, e⟩
        · subst e; exact hQ' _ _ ⟨rfl, rfl⟩
        · have e : r = ri ++ [rx] := by simpa using e
          subst e
          exfalso
          have : PyData.eqv (.tuple ((ri ++ [rx]).map PyData.int)) (.tuple (([] : List Int).map PyData.int)) = decide (ri ++ [rx] = []) := dA_eqv _ _
          have this : PyData.eqv (.tuple ((ri ++ [rx]).map PyData.int)) (.tuple ([] : List PyData)) = decide (ri ++ [rx] = []) := this
          rw [this, decide_eq_false (by simp)] at b1
          cases b1
      rintro ⟨rfl, rfl⟩
      walk_at "rd"
      refine ⟨lastI r, ((k : Nat) : Int), rfl, ⟨by omega, by omega, by omega, by omega⟩, fun D hD => ?_⟩
      have en : (((k : Nat) : Int) - lastI r).toNat = k - (lastI r).toNat := by omega
      rw [en]
      have S67 : Same H4 _ := S6.trans S7
      refine lc_range (lo := lastI r) (n := k - (lastI r).toNat) (fun m H' => Same _ H' ∧ ∃ zs, H' D = some (.lst zs) ∧ Paired (RwAt H') zs ((extR k r).take m) ∧ zs.length ≤ m) ⟨Same.fresh hD, [], upd_same, .nil, Nat.le_refl _⟩ (fun m H8 hm pv => ?_) (fun H8 pv => ?_)
      · obtain ⟨S8, zs, hzs, pzs, lzs⟩ := pv
        walk_at "rd"
        refine ⟨rfl, ?_⟩
        walk_at "rd"
        intro b9 H9 n9 S9 e9
        refine rd_catW ((hra7.same S8).same S9) (Tup.of e9) (by rw [List.length_map, ok.l]; show i + 1 ≤ _; omega) fun H10 b10 S10 e10 => ?_
        have S810 := S9.trans S10
        have hz10 := S810 _ _ hzs
        have ex : (extR k r)[m]? = some (r ++ [lastI r + ((m : Nat) : Int)]) := by
          unfold extR
          rw [List.getElem?_map, List.getElem?_range hm]; rfl
        have up : ∀ {x : V} {r' : List Int}, RwAt H10 x r' → RwAt (upd H10 D (.lst (zs ++ [.ref b10]))) x r' := fun ⟨a, e, h⟩ => ⟨a, e, tup_upd h hz10⟩
        refine ⟨zs, hz10, Nat.lt_of_le_of_lt (by omega : zs.length ≤ 100) (by decide), same_put (S8.trans S810) hD, zs ++ [.ref b10], upd_same, ?_, by rw [List.length_append]; simp; omega⟩
        rw [List.take_succ, ex]
        exact Paired.snoc (paired_mono pzs fun _ _ z => up (z.same S810)) (up ⟨b10, rfl, by rw [List.map_append]; exact e10⟩)
      · obtain ⟨S8, zs, hzs, pzs, lzs⟩ := pv
        have le : (extR k r).length = k - (lastI r).toNat := by unfold extR; rw [List.length_map, List.length_range]
        rw [List.take_of_length_le (by omega)] at pzs
        have S78 := S7.trans S8
        refine rd_cat (S78 _ _ hlg) hzs (by omega) ?_
        intro b9 H9 n9 S9 e9
        walk_at "rd"
        refine ⟨b9, ⟨_, _, _, _, rfl⟩, (S6.trans S78).trans S9, _, e9, ?_, by rw [List.length_append]; omega⟩
        rw [List.take_succ, hr6, List.flatMap_append]
        show Paired _ _ (_ ++ [r].flatMap (extR k))
        have e1 : [r].flatMap (extR k) = extR k r := by simp
        rw [e1]
        exact paired_app (paired_mono pys fun _ _ z => z.same (S78.trans S9)) (paired_mono pzs fun _ _ z => z.same S9)
    · obtain ⟨lg, ⟨o7, o8, o9, o10, rfl⟩, S6, ys, hlg, pys, lys⟩ := pv
      rw [lxs, List.take_length] at pys
      walk_at "rd"
      exact ⟨lg, ⟨_, _, _, _, _, _, rfl⟩, S4.trans S6, ys, hlg, pys⟩
  obtain ⟨rl, ⟨o5, o6, o7, o8, o9, o10, rfl⟩, S4, xs, hrl, pxs⟩ := pv
  have lxs := paired_len pxs
  have lr := rows_len k4 n
  have lp := rows_pos k0 n
  have l256 : 4 ^ n ≤ 4 ^ 4 := Nat.pow_le_pow_right (by decide) n4
  have l256 : 4 ^ n ≤ 256 := l256
  have d4 := d3.same S4
  have e3' := S4 _ _ e3
  clear S4 d3 x3 r3 e3
  walk_at "rd"
  refine ⟨by omega, by omega, ?_⟩
  refine for_range (lo := 0) (n := k) (fun i σ H' => ∃ vl, (vl ≠ p ∧ vl ≠ q) ∧ (∃ o5 o6 o7 o8 o9 o10, σ = [some (.ref p), some (.int ((k : Nat) : Int)), some (.int ((n : Nat) : Int)), some (.ref rl), some (.ref vl), o5, o6, o7, o8, o9, o10]) ∧ Same H4 H' ∧ ∃ ys, H' vl = some (.lst ys) ∧ Paired (VAt H') ys ((List.range i).flatMap fun m : Nat => (rowsN k n).map fun r => ((((m : Nat) : Int), r) : Vw)) ∧ ys.length ≤ 256 * i)
    ⟨vl, ⟨vlp, vlq⟩, ⟨_, _, _, _, _, _, rfl⟩, Same.refl _, [], e3', .nil, by simp⟩ (fun i σ H5 hi pv => ?_) (fun σ H5 pv => ?_)
  · obtain ⟨vl, ⟨vlp, vlq⟩, ⟨o5, o6, o7, o8, o9, o10, rfl⟩, S5, ys, hvl, pys, lys⟩ := pv
    walk_at "rd"
    refine ⟨rl, rfl, ⟨_, SqL.of (S5 _ _ hrl)⟩, fun D hD => ?_⟩
    refine lc_list (xs := xs) (fun j H' => Same H5 H' ∧ ∃ zs, H' D = some (.lst zs) ∧ Paired (VAt H') zs (((rowsN k n).take j).map fun r => ((((i : Nat) : Int), r) : Vw)) ∧ zs.length ≤ j) ⟨Same.fresh hD, [], upd_same, .nil, Nat.le_refl _⟩ (fun j H' _ pv => SqL.of (pv.1 _ _ (S5 _ _ hrl))) (fun j x H6 hx pv => ?_) (fun H6 pv => ?_)
    · obtain ⟨S6, zs, hzs, pzs, lzs⟩ := pv
      obtain ⟨r, hr4, xr⟩ := paired_get pxs hx
      obtain ⟨ra, rfl, hra⟩ := xr
      have hj := (List.getElem?_eq_some_iff.mp hx).1
      walk_at "rd"
      refine ⟨rfl, ?_⟩
      walk_at "rd"
      intro b7 H7 n7 S7 e7
      have hz7 := S7 _ _ hzs
      have up : ∀ {x : V} {c : Vw}, VAt H7 x c → VAt (upd H7 D (.lst (zs ++ [.ref b7]))) x c := fun h => h.upd hz7
      refine ⟨zs, hz7, Nat.lt_of_le_of_lt (by omega : zs.length ≤ 1000) (by decide), same_put (S6.trans S7) hD, zs ++ [.ref b7], upd_same, ?_, by rw [List.length_append]; simp; omega⟩
      rw [List.take_succ, hr4, List.map_append]
      refine Paired.snoc (paired_mono pzs fun _ _ z => up (z.same S7)) (up ⟨b7, ra, rfl, ?_, hra.same ((S5.trans S6).trans S7)⟩)
      show Tup H7 b7 [V.int ((i : Nat) : Int), V.ref ra]
      have e7' : H7 b7 = some (.tup [V.int (0 + ((i : Nat) : Int)), V.ref ra]) := e7
      rw [Int.zero_add] at e7'
      exact Tup.of e7'
    · obtain ⟨S6, zs, hzs, pzs, lzs⟩ := pv
      rw [lxs, List.take_length] at pzs
      refine rd_cat (S6 _ _ hvl) hzs (by omega) ?_
      intro b9 H9 n9 S9 e9
      walk_at "rd"
      refine ⟨b9, (d4.same (S5.trans S6)).nes n9, ⟨_, _, _, _, _, _, rfl⟩, (S5.trans S6).trans S9, _, e9, ?_, by rw [List.length_append]; omega⟩
      rw [List.range_succ, List.flatMap_append]
      show Paired _ _ (_ ++ [i].flatMap fun m : Nat => (rowsN k n).map fun r => ((((m : Nat) : Int), r) : Vw))
      rw [show ([i].flatMap fun m : Nat => (rowsN k n).map fun r => ((((m : Nat) : Int), r) : Vw)) = (rowsN k n).map fun r => ((((i : Nat) : Int), r) : Vw) by simp]
      exact paired_app (paired_mono pys fun _ _ z => z.same (S6.trans S9)) (paired_mono pzs fun _ _ z => z.same S9)
  obtain ⟨vl, ⟨vlp, vlq⟩, ⟨o5, o6, o7, o8, o9, o10, rfl⟩, S5, ys, hvl, pys, lys⟩ := pv
  have pys : Paired (VAt H5) ys (viewsN k n) := pys
  have ly := paired_len pys
  have lW := views_len (k := k) (n := n)
  have lW0 : 0 < (viewsN k n).length := by rw [lW]; exact Nat.mul_pos k0 lp
  have d5 := d4.same S5
  have vle := views_le k0 n
  have vnd := views_nd k0 n
  have vgd := views_good k0 n4
  have bW : (viewsN k n).length ≤ 200 := by
    have := rows_35 k1 k4 n4
    rw [lW]
    have : k * (rowsN k n).length ≤ 4 * 35 := Nat.mul_le_mul k4 this
    omega
  generalize viewsN k n = W at pys ly lW lW0 vle vnd vgd bW
  clear S5 hrl pxs lxs lr e3' d4 lys lW
  walk_at "rd"
  refine rd_make ?_
  walk_at "rd"
  refine rd_revL ?_
  walk_at "rd"
  refine ⟨vl, ys, rfl, SqL.of hvl, fun z hz => ?_⟩
  have S6 : Same H5 (upd H5 z (.lst ys.reverse)) := Same.fresh hz
  have hz6 : upd H5 z (.lst ys.reverse) z = some (.lst ys.reverse) := upd_same
  generalize upd H5 z (.lst ys.reverse) = H6 at S6 hz6 ⊢
  have pys6 : Paired (VAt H6) ys W := paired_mono pys fun _ _ z => z.same S6
  walk_at "rd"
  intro s1 dx1 hs1 hd1 _
  refine pol_good (by omega) (by omega) hs1 hd1 (.lst hz6) (by rw [List.length_reverse]; omega) (vs_vb (by omega) (paired_rev pys6) fun c hc => vgd c (List.mem_reverse.mp hc)) ((List.reverse_perm W).nodup_iff.mpr vnd) fun H8 S8 B8 => ⟨rfl, ?_⟩
  rw [sortV_of (List.reverse_perm W).symm vle] at B8
  have hvl8 := S8 _ _ (S6 _ _ hvl)
  have d8 := (d5.same S6).same S8
  walk_at "rd"
  refine rd_len hvl8 ?_
  walk_at "rd"
  refine ⟨p, q, _, rfl, d8, by omega, by omega, fun H9 u d9 f9 u0 u1 => ?_⟩
  obtain ⟨j, rfl⟩ := Int.eq_ofNat_of_zero_le u0
  have hj : j < ys.length := by omega
  walk_at "rd"
  have B9 : PolAt P w T.c_Policy H9 s1 ((k : Nat) : Int) W := B8.kp (Kp.fix d8 f9)
  have hvl9 : H9 vl = some (.lst ys) := f9 _ _ vlp vlq hvl8
  have pys9 : Paired (VAt H9) ys W := paired_mono pys fun _ _ z => ((z.same S6).same S8).fix d8 f9
  obtain ⟨dx, t, dd, zs, hp, ht, hzs, hd⟩ := id B9
  have rp := rep_vs (k := ((k : Nat) : Int)) (by omega) vgd bW
  refine ⟨s1, _, dx, _, _, rfl, hp, T.C_Policy, T.A_Policy_views, look_pv, ?_⟩
  walk_at "rd"
  refine rd_repr (.tup ht.sq (dp_vs hzs)) rp.s rp.n rp.h rp.l ?_
  walk_at "rd"
  refine rd_tupL hvl9 ?_
  intro t10 H10 n10 S10 e10
  walk_at "rd"
  refine rd_repr (.tup (SqT.of e10) (dp_vs (paired_mono pys9 fun _ _ z => z.same S10))) rp.s rp.n rp.h rp.l ?_
  refine rd_neS ?_
  walk_at "rd"
  refine iteF' (by simp) ?_
  walk_at "rd"
  refine rd_meth ?_
  walk_at "rd"
  refine ⟨s1, dx, _, rfl, S10 _ _ hp, look_pn (by decide +kernel) (by decide +kernel) (by decide +kernel), ?_⟩
  walk_at "rd"
  have hyj : ys[j]? = some (ys[j]'hj) := List.getElem?_eq_getElem hj
  obtain ⟨c, hc, hyc⟩ := paired_get pys9 hyj
  refine rd_ixL (S10 _ _ hvl9) (atI_at (by omega) (by omega) (by rw [Int.toNat_natCast]; exact hyj)) ?_
  walk_at "rd"
  refine ⟨s1, _, _, W, some c, rfl, B9.same S10, (hyc.same S10).vwx ((vgd c (List.mem_of_getElem? hc)).up (by omega)), fun H11 S11 => ?_⟩
  have ev : spotV W (some c) = .int ((j : Nat) : Int) := by
    show (valV (kvS 0 W) (vKey c)).getD .non = _
    rw [kvS_get 0 vnd hc, Nat.zero_add]; rfl
  rw [ev]
  have ri : Rep (.int ((j : Nat) : Int)) := (sm_int (i := ((j : Nat) : Int)) (by omega) (by omega)).rep (by decide) (by decide)
  walk_at "rd"
  refine rd_repr (.int _) ri.s ri.n ri.h ri.l ?_
  walk_at "rd"
  refine rd_repr (.int _) ri.s ri.n ri.h ri.l ?_
  refine rd_neS ?_
  walk_at "rd"
  refine iteF' (by simp) ?_
  walk_at "rd"
  have hvl11 := S11 _ _ (S10 _ _ hvl9)
  have B11 := (B9.same S10).same S11
  refine rd_lstRg ?_
  walk_at "rd"
  refine rd_len hvl11 ?_
  walk_at "rd"
  refine ⟨RgOk.of_le (by omega) (by omega) (by omega) (by omega), fun b12 n12 => ?_⟩
  rw [rg_ints]
  have S12 : Same H11 (upd H11 b12 (.lst ((rangeI ys.length).map V.int))) := Same.fresh n12
  have e12 : upd H11 b12 (.lst ((rangeI ys.length).map V.int)) b12 = some (.lst ((rangeI ys.length).map V.int)) := upd_same
  generalize upd H11 b12 (.lst ((rangeI ys.length).map V.int)) = H12 at S12 e12 ⊢
  have rl2 := range_len ys.length
  have ri2 := rep_ints (range_b (n := ys.length) (by omega)) (by omega)
  walk_at "rd"
  refine cs_some (B11.same S12) (.lst e12) (by omega) ⟨fun z => absurd (by omega) z, fun _ H13 t13 S13 ht13 => ?_⟩
  walk_at "rd"
  refine rd_repr (.tup ht13.sq (dA_ints K H13 _)) ri2.s ri2.n ri2.h ri2.l ?_
  walk_at "rd"
  refine rd_tupRg ?_
  walk_at "rd"
  refine rd_len (S13 _ _ (S12 _ _ hvl11)) ?_
  walk_at "rd"
  refine ⟨RgOk.of_le (by omega) (by omega) (by omega) (by omega), fun b14 n14 => ?_⟩
  rw [rg_ints]
  have e14 : upd H13 b14 (.tup ((rangeI ys.length).map V.int)) b14 = some (.tup ((rangeI ys.length).map V.int)) := upd_same
  generalize upd H13 b14 (.tup ((rangeI ys.length).map V.int)) = H14 at e14 ⊢
  walk_at "rd"
  refine rd_repr (.tup (SqT.of e14) (dA_ints K H14 _)) ri2.s ri2.n ri2.h ri2.l ?_
  refine rd_eqS ?_
  rw [decide_eq_true rfl]
  exact hQ H14
end
end K03

namespace K03
open PySem PySem.Spec PyProof.Rows L2 KX LamX RZ
local macro_rules | `(tactic| walk_at "rd1") => `(tactic| first
  | with_reducible refine rd_seq ?_
  | with_reducible refine rd_for ?_
  | with_reducible refine rd_lc ?_
  | with_reducible refine rd_asg ?_
  | ((with_reducible refine' rd_var ?rdv ?_); (case rdv => exact rfl))
  | with_reducible refine rd_c ?_
  | with_reducible refine rd_op ?_
  | with_reducible refine rd_un ?_
  | with_reducible refine rd_cons ?_
  | with_reducible refine rd_nil ?_
  | with_reducible refine rd_call ?_
  | with_reducible refine rd_cb ?_
  | with_reducible refine rd_tB ?_
  | with_reducible refine rd_test ?_
  | with_reducible refine rd_bl ?_
  | with_reducible refine rd_rI0 ?_
  | with_reducible refine rd_eqI ?_
  | with_reducible refine rd_neI ?_
  | with_reducible refine rd_rU ?_
  | with_reducible refine rd_name ?_
  | with_reducible refine rd_ifs ?_
  | with_reducible refine rd_and ?_
  | with_reducible refine rd_or ?_
  | with_reducible refine rd_not ?_
  | with_reducible refine rd_yes ?_
  | with_reducible refine rd_andV ?_
  | with_reducible refine rd_orV ?_
  | with_reducible refine rd_notV ?_
  | with_reducible refine rd_if ?_
  | with_reducible refine rd_isN ?_
  | with_reducible refine rd_iT ?_
  | with_reducible refine rd_iF ?_
  | with_reducible refine rd_ret ?_
  | with_reducible refine rd_retN ?_
  | with_reducible refine rd_drop ?_
  | with_reducible refine rd_next ?_
  | with_reducible refine rd_cont ?_
  | with_reducible refine rd_brk ?_
  | with_reducible refine rd_nx ?_
  | with_reducible refine rd_rt ?_
  | with_reducible refine rd_ct ?_
  | with_reducible refine rd_bk ?_
  | with_reducible refine rd_par ?_
  | with_reducible refine rd_par3 ?_
  | with_reducible refine rd_par2 ?_
  | with_reducible refine rd_par33 ?_
  | with_reducible refine rd_gcons ?_
  | with_reducible refine rd_gnil ?_
  | with_reducible refine rd_sub ?_
  | with_reducible refine rd_tup ?_
  | with_reducible refine rd_lst ?_
  | ((with_reducible refine rd_tupT ?hl ?_); (case hl => exact Nat.le_of_ble_eq_true rfl))
  | ((with_reducible refine rd_lstT ?hl ?_); (case hl => exact Nat.le_of_ble_eq_true rfl))
  | with_reducible refine rd_bm ?_
  | with_reducible refine rd_bm0 ?_
  | with_reducible refine rd_sl ?_
  | with_reducible refine rd_noP ?_
  | with_reducible refine rd_part ?_
  | with_reducible refine rd_int ?_
  | with_reducible refine rd_int1 ?_
  | with_reducible refine rd_fld ?_
  | with_reducible refine rd_then ?_
  | with_reducible refine rd_raise ?_
  | with_reducible refine rd_one ?_
  | with_reducible refine rd_sfld ?_
  | with_reducible refine rd_ilist ?_
  | with_reducible refine rd_itup ?_
  | with_reducible refine rd_rng1 ?_
  | with_reducible refine rd_enum ?_
  | with_reducible refine rd_enumT ?_)
local macro_rules | `(tactic| walk_at "rd") => `(tactic| repeat (walk_at "rd1"))
theorem kb_Policy_spot {K : PySem.W.Frag} {mg : Str → Option Value} (T : TX K mg) : KBn K T.d_Policy_spot ["self", "view"] 1 ["view"] (fun us ws => us ++ ws) (fun vs zs => vs ++ zs) := by
  obtain ⟨oc, od, kV, doc, pm, an, cdv, ct, osl, e, lk, hcd⟩ := T.F_Policy_spot.ex
  rw [e]
  exact kb_second fun u v => rfl
theorem PolAt.upd {P : Program} {w : World} {C l s : Addr} {H : Hp} {xs : List V} {o : HO} {k : Int} {ws : List Vw} (h : PolAt P w C H s k ws) (hl : H l = some (.lst xs)) : PolAt P w C (L2.upd H l o) s k ws := by
  obtain ⟨dx, t, d, ys, h1, h2, h3, h4⟩ := h
  refine ⟨dx, t, d, ys, by rw [upd_ne (fun e => by rw [e, hl] at h1; cases h1)]; exact h1, tup_upd h2 hl, paired_mono h3 fun _ _ z => z.upd hl, h4.mono (fun xs e => ?_) fun _ _ e => tup_upd e hl⟩
  rw [upd_ne (fun e' => by rw [e', hl] at e; cases e)]; exact e
/-- what is asked of a policy: a view, or what is none -/
inductive Ask (K : PySem.W.Frag) (p q : Addr) (H : Hp) (W : List Vw) (x : V) : Prop
  | view (c : Vw) (g : GoodV 4 c) (h : ∀ H', Kp p q H H' → VAt H' x c) : Ask K p q H W x
  | none (d : PyData) (s : SeqAt.shaped d = true) (n : (W.map dV).any (fun z => PyData.eqv z d) = false) (h : ∀ H', Kp p q H H' → Dp K H' x d ∧ VwX K H' x Option.none) : Ask K p q H W x
  | bool (a : Addr) (y : V) (d : PyData) (e : x = .ref a) (s : SeqAt.shaped d = true) (h : ∀ H', Kp p q H H' → Tup H' a [.bl true, y] ∧ Dp K H' x d ∧ VwX K H' x Option.none) : Ask K p q H W x
theorem Ask.kp {K : PySem.W.Frag} {p q : Addr} {H H' : Hp} {W : List Vw} {x : V} (h : Ask K p q H W x) (k : Kp p q H H') : Ask K p q H' W x := by
  cases h with
  | view c g h => exact .view c g fun H2 z => h H2 (k.trans z)
  | none d s n h => exact .none d s n fun H2 z => h H2 (k.trans z)
  | bool a y d e s h => exact .bool a y d e s fun H2 z => h H2 (k.trans z)
theorem any_no {W : List Vw} {d : PyData} (h : ∀ c, PyData.eqv (dV c) d = false) : (W.map dV).any (fun z => PyData.eqv z d) = false := by
  rw [List.any_eq_false]
  intro z hz
  obtain ⟨c, _, rfl⟩ := List.mem_map.mp hz
  rw [h c]; decide
theorem idx_pre {W : List Vw} (nd : W.Nodup) {j : Nat} {c : Vw} (h : W[j]? = some c) : ∀ (m : Nat) (z : PyData), m < j → (W.map dV)[m]? = some z → PyData.eqv z (dV c) = false := fun m z hm hz => by
  rw [List.getElem?_map] at hz
  obtain ⟨c', hc', rfl⟩ := Option.map_eq_some_iff.mp hz
  rw [dV_eqv1]
  refine decide_eq_false fun e => ?_
  subst e
  have h1 := (List.getElem?_eq_some_iff.mp hc').1
  have := (List.getElem?_inj h1 nd).mp (hc'.trans h.symm)
  omega
theorem rd_to {te : TE} {σ : L2.St} {H : Hp} {Q : VK} (R : V → Hp → Prop) (h : ∀ Q' : VK, (∀ x H', R x H' → Q' x H') → te σ H Q') (hR : ∀ x H', R x H' → Q x H') : te σ H Q := h Q hR
theorem rep_non : Rep .none := ⟨rfl, rfl, by decide, by decide⟩
def spLaw (tM tN tR : Addr) (K : PySem.W.Frag) : L2.Sp := fun vs H Q _ => ∃ (a : Addr) (ns : List Int), vs = [.ref a] ∧ SqL K H a (ns.map V.int) ∧ H tM = some (.tbl #[]) ∧ H tN = some (.tbl #[]) ∧ H tR = some (.tbl #[]) ∧ ∀ H', Q (.bl true) H'
section
variable {P : Program} {w : World} {K : PySem.W.Frag} {mg : Str → Option Value} {base : Heap} (T : TX K mg)
theorem G_law {cM tM cN tN cR tR CN : Addr} (B : Tb base mg cM tM cN tN cR tR) (IR : IsR K T.c_InvalidPolicy T.c_InvalidView T.c_InvalidScore T.c_InvalidQuestion) (gN : mg "NetError" = some (.ref CN)) (DV : DefC K "_law_views_refused" s__law_views_refused T.f__law_views_refused cM T.d__law_views_refused)
    (DS : DefC K "_law_scores_right" s__law_scores_right T.f__law_scores_right cN T.d__law_scores_right) (DP : DefC K "_law_part_right" s__law_part_right T.f__law_part_right cR T.d__law_part_right)
    (nfT : PySem.W.notFirst K T.c_Policy (.type "tuple") = true) (ktT : PySem.W.kitOne K (.type "tuple") (.ref T.c_Policy) = some false) (nfI : PySem.W.notFirst K T.c_Policy (.type "int") = true) (ktI : PySem.W.kitOne K (.type "int") (.ref T.c_Policy) = some false) :
    FnR P w K mg base CX0 (CG 17) T.f_law T.d_law ["script"] (spLaw tM tN tR K) := by
  obtain ⟨oc, od, kV, doc, pm, an, cdv, ct, osl, eF, lk, hcd⟩ := T.F_law.ex
  rw [eF] at lk
  rw [eF]
  refine fnG_of lk hcd sc_law (fun vs H Q E h => ?_) fun A outer s H vs Q E hr hg h => ?_
  · obtain ⟨a, ns, rfl, _⟩ := h
    rfl
  have hu : (A.deeper (envOfC "law" (defScope s_law) s.heap.objs.size T.f_law cdv)).units + 66 < cLine := by
    have := hr.un
    omega
  refine ⟨_, PSs.nox (pss_cons (ps_set (i := 1) sc_law.nd rfl (.inl rfl) (pe_call (G__law_draw T) (hr.mono (by decide)) (by rfl) T.m__law_draw T.F__law_draw.kp T.b__law_draw .nil pass0 (by exact (pa_cons (pv 0) (pa_cons pe_int pa_nil))))) (pss_cons (ps_for PassesOwn.never rfl (pi_range1 (by rfl) T.n_range (by exact (pa_cons pe_int pa_nil))) (pg_name (i := 2) sc_law.nd rfl (.inl rfl)) (pss_cons (ps_asg (pe_call (G__law_policy T) (hr.mono (by decide)) (by rfl) T.m__law_policy T.F__law_policy.kp T.b__law_policy .nil pass0 (by exact (pa_cons (pv 1) pa_nil))) (pg_tupK (K := K) (n := 3) (by rfl) (pgs_cons (pg_name (i := 3) sc_law.nd rfl (.inl rfl)) (pgs_cons (pg_name (i := 4) sc_law.nd rfl (.inl rfl)) (pgs_cons (pg_name (i := 5) sc_law.nd rfl (.inl rfl)) pgs_nil))))) (pss_cons (ps_set (i := 6) sc_law.nd rfl (.inl rfl) (pe_call (G__law_mixed T) (hr.mono (by decide)) (by rfl) T.m__law_mixed T.F__law_mixed.kp T.b__law_mixed .nil pass0 (by exact (pa_cons (pv 1) (pa_cons (pv 4) pa_nil))))) (pss_cons (ps_par (i := 7) (j := 8) (by rfl) sc_law.nd rfl rfl (by decide) rfl rfl (pa_cons (pe_make T.M_Policy (G_Policy_init (P := P) (w := w) T) (hr.mono (by decide)) (by rfl) T.m_Policy T.b_Policy_init .nil passL (by exact (pa_cons (pv 3) (pa_cons (pv 6) pa_nil)))) (pa_cons (pe_makeK0 T.M_Policy (G_Policy_init (P := P) (w := w) T) (hr.mono (by decide)) (by rfl) T.m_Policy (kb_Policy T) passL (by exact (pk_cons (pe_tupleK (K := K) (by rfl) T.n_tuple (pv 4)) (pk_cons (pv 3) pk_nil)))) pa_nil)) (by rfl)) (pss_cons (ps_expr (pe_bmK (K := K) PySem.F.slot_list_append PySem.F.type_list_append mt_append (pv 6) (by exact (pa_cons pe_non pa_nil)))) (pss_cons (ps_if (PW.pt (pw_or (pt_cmpR op_ne (pe_callB (cr_reprK (K := K) hg hu) (by rfl) T.n_repr (by decide +kernel) (by exact (pa_cons (pe_tup (pa_cons (pe_fldK (K := K) (pv 7)) (pa_cons (pe_fldK (K := K) (pv 7)) pa_nil))) pa_nil))) (pe_callB (cr_reprK (K := K) hg hu) (by rfl) T.n_repr (by decide +kernel) (by exact (pa_cons (pe_tup (pa_cons (pv 3) (pa_cons (pe_tupleK (K := K) (by rfl) T.n_tuple (pv 4)) pa_nil))) pa_nil))) (nomark _)) (pw_or (pt_not (pt_cmpR (op_ownEqK (K := K) (sp := spEqP P w K T.c_Policy) T.O_Policy (G_Policy_eq T) T.b_Policy_eq (hr.mono (by decide))) (pv 7) (pv 8) (nomark _))) (pw_or1 (pt_cmpR (op_ownNeK (K := K) (sp := spEqP P w K T.c_Policy) T.O_Policy (G_Policy_eq T) T.b_Policy_eq (hr.mono (by decide))) (pv 7) (pv 8) (nomark _)))))) (pss_one (ps_ret pe_bl)) pss_nil) (pss_cons (ps_if (PW.pt (pw_or (pt_cmpR (op_ownEqK (K := K) (sp := spEqP P w K T.c_Policy) T.O_Policy (G_Policy_eq T) T.b_Policy_eq (hr.mono (by decide))) (pv 7) (pe_tup (pa_cons (pv 3) (pa_cons (pe_tupleK (K := K) (by rfl) T.n_tuple (pv 4)) pa_nil))) (nomark _)) (pw_or (pt_cmpR (op_ownEqK (K := K) (sp := spEqP P w K T.c_Policy) T.O_Policy (G_Policy_eq T) T.b_Policy_eq (hr.mono (by decide))) (pv 7) (pv 3) (nomark _)) (pw_or1 (PW.pt (pw_and (pt_cmpR op_lt (pv 3) pe_int (nomark _)) (pw_and1 (pt_cmpR (op_ownEqK (K := K) (sp := spEqP P w K T.c_Policy) T.O_Policy (G_Policy_eq T) T.b_Policy_eq (hr.mono (by decide))) (pv 7) (pe_make T.M_Policy (G_Policy_init (P := P) (w := w) T) (hr.mono (by decide)) (by rfl) T.m_Policy T.b_Policy_init .nil passL (by exact (pa_cons (pe_op op_add (pv 3) pe_int) (pa_cons (pv 4) pa_nil)))) (nomark _))))))))) (pss_one (ps_ret pe_bl)) pss_nil) (pss_cons (ps_if (PW.pt (pw_and (pt_cmpR (op_neDK (K := K) hr.units) (pv 4) (pe_lst pa_nil) (nomark _)) (pw_and1 (pt_cmpR (op_ownEqK (K := K) (sp := spEqP P w K T.c_Policy) T.O_Policy (G_Policy_eq T) T.b_Policy_eq (hr.mono (by decide))) (pv 7) (pe_make T.M_Policy (G_Policy_init (P := P) (w := w) T) (hr.mono (by decide)) (by rfl) T.m_Policy T.b_Policy_init .nil passL (by exact (pa_cons (pv 3) (pa_cons (pe_slice (sl_listK (K := K)) (pv 4) (po_some pe_int) po_none) pa_nil)))) (nomark _))))) (pss_one (ps_ret pe_bl)) pss_nil) (pss_cons (ps_for PassesOwn.never rfl (pi_listK (K := K) (pe_op op_cat (pv 4) (pe_lst (pa_cons (pe_call (G__law_other T) (hr.mono (by decide)) (by rfl) T.m__law_other T.F__law_other.kp T.b__law_other .nil pass0 (by exact (pa_cons (pv 1) (pa_cons (pv 3) (pa_cons pe_non pa_nil))))) (pa_cons pe_non (pa_cons pe_int (pa_cons (pe_lst (pa_cons pe_int (pa_cons (pe_tup pa_nil) pa_nil))) (pa_cons (pe_tup (pa_cons pe_int (pa_cons (pe_lst (pa_cons pe_int pa_nil)) pa_nil))) (pa_cons (pe_tup (pa_cons pe_bl (pa_cons (pe_tup pa_nil) pa_nil))) (pa_cons (pe_tup (pa_cons pe_int pa_nil)) (pa_cons (pe_tup (pa_cons (pe_tup (pa_cons pe_int (pa_cons pe_int pa_nil))) (pa_cons pe_int pa_nil))) pa_nil))))))))))) (pg_name (i := 9) sc_law.nd rfl (.inl rfl)) (pss_cons (ps_set (i := 10) sc_law.nd rfl (.inl rfl) (pe_ifExp (PW.pt (pw_and (pt_cmpR (op_inDK (K := K) (KX.Room.u65 hr)) (pv 9) (pv 4) (by rfl)) (pw_and1 (pt_not (pt_val (pe_callB (cr_isiK (K := K)) (by rfl) T.n_isinstance (by decide +kernel) (by exact (pa_cons (pe_ix (ix_tupK (K := K)) (pv 9) pe_int (fun _ _ => rfl)) (pa_cons (pe_bltn (v := .ty "bool") rfl T.n_bool (by decide +kernel) rfl) pa_nil))))))))) (pe_bmK (K := K) PySem.F.slot_list_index PySem.F.type_list_index (mt_indexDK (K := K) (KX.Room.u65 hr)) (pv 4) (by exact (pa_cons (pv 9) pa_nil))) pe_non)) (pss_one (ps_if (PW.pt (pw_or (pt_cmpR op_ne (pe_callB (cr_reprK (K := K) hg hu) (by rfl) T.n_repr (by decide +kernel) (by exact (pa_cons (pe_meth (pv 7) T.C_Policy T.H_Policy_spot (G_Policy_spot (P := P) (w := w) T) (hr.mono (by decide)) T.b_Policy_spot .nil pass0 (by exact (pa_cons (pv 9) pa_nil))) pa_nil))) (pe_callB (cr_reprK (K := K) hg hu) (by rfl) T.n_repr (by decide +kernel) (by exact (pa_cons (pv 10) pa_nil))) (nomark _)) (pw_or1 (pt_cmpR op_ne (pe_callB (cr_reprK (K := K) hg hu) (by rfl) T.n_repr (by decide +kernel) (by exact (pa_cons (pe_methK (pv 8) T.C_Policy T.H_Policy_spot (G_Policy_spot (P := P) (w := w) T) (hr.mono (by decide)) (kb_Policy_spot T) pass0 (by exact (pk_cons (pv 9) pk_nil))) pa_nil))) (pe_callB (cr_reprK (K := K) hg hu) (by rfl) T.n_repr (by decide +kernel) (by exact (pa_cons (pv 10) pa_nil))) (nomark _))))) (pss_one (ps_ret pe_bl)) pss_nil)))) (pss_cons (ps_if (PW.pt (pw_or (pt_not (pt_val (pe_callR (G__law_views_refused T B IR gN DV) (fun _ _ _ _ _ => ⟨hr.mono (by decide), hg⟩) (by rfl) T.m__law_views_refused T.F__law_views_refused.kp T.b__law_views_refused pass0 (by exact (pa_cons (pv 1) (pa_cons (pv 3) (pa_cons (pv 4) pa_nil))))))) (pw_or1 (pt_not (pt_val (pe_callR (G__law_scores_right T B IR gN DS) (fun _ _ _ _ _ => ⟨hr.mono (by decide), hg⟩) (by rfl) T.m__law_scores_right T.F__law_scores_right.kp T.b__law_scores_right pass0 (by exact (pa_cons (pv 1) (pa_cons (pv 7) (pa_cons (pv 4) pa_nil)))))))))) (pss_one (ps_ret pe_bl)) pss_nil) (pss_one (ps_if (PW.pt (pw_or (pt_not (pt_val (pe_callR (G__law_part_right T B IR gN DP) (fun _ _ _ _ _ => ⟨hr.mono (by decide), hg⟩) (by rfl) T.m__law_part_right T.F__law_part_right.kp T.b__law_part_right pass0 (by exact (pa_cons (pv 1) (pa_cons (pv 7) (pa_cons (pv 3) (pa_cons (pv 4) pa_nil)))))))) (pw_or1 (pt_cmpR op_ne (pe_callB (cr_reprK (K := K) hg hu) (by rfl) T.n_repr (by decide +kernel) (by exact (pa_cons (pe_fldK (K := K) (pv 7)) pa_nil))) (pe_callB (cr_reprK (K := K) hg hu) (by rfl) T.n_repr (by decide +kernel) (by exact (pa_cons (pe_tupleK (K := K) (by rfl) T.n_tuple (pv 4)) pa_nil))) (nomark _))))) (pss_one (ps_ret pe_bl)) pss_nil)))))))))))) (pss_one (ps_ret (pe_callR (G__law_all_right T) (fun _ _ _ _ _ => ⟨hr.mono (by decide), hg⟩) (by rfl) T.m__law_all_right T.F__law_all_right.kp T.b__law_all_right pass0 (by exact (pa_cons (pv 1) (pa_cons (pe_op op_add pe_int (pe_call (G__law_any T) (hr.mono (by decide)) (by rfl) T.m__law_any T.F__law_any.kp T.b__law_any .nil pass0 (by exact (pa_cons (pv 1) (pa_cons pe_int pa_nil))))) (pa_cons (pe_call (G__law_any T) (hr.mono (by decide)) (by rfl) T.m__law_any T.F__law_any.kp T.b__law_any .nil pass0 (by exact (pa_cons (pv 1) (pa_cons pe_int pa_nil)))) pa_nil))))))))), ?_⟩
  clear hu
  obtain ⟨a0, ns0, rfl, hS, hM, hN, hR, hQ⟩ := h
  walk_at "rd"
  refine ⟨a0, ns0, 3, rfl, hS, by decide, by decide, fun H0 p q S0 np nq d0 => ?_⟩
  walk_at "rd"
  have tb0 : Tabs (T3 tM tN tR) H0 := fun z hz => by
    rcases t3_mem hz with rfl | rfl | rfl
    · exact ⟨#[], S0 _ _ hM, by show TriplesOk []; exact trivial, fun pos cv hc => by cases hc⟩
    · exact ⟨#[], S0 _ _ hN, by show TriplesOk []; exact trivial, fun pos cv hc => by cases hc⟩
    · exact ⟨#[], S0 _ _ hR, by show TriplesOk []; exact trivial, fun pos cv hc => by cases hc⟩
  clear hS hM hN hR S0 np nq
  refine ⟨by decide, by decide, ?_⟩
  refine for_range (lo := 0) (n := 2) (fun i σ H' => (∃ o2 o3 o4 o5 o6 o7 o8 o9 o10, σ = [some (.ref a0), some (.ref p), o2, o3, o4, o5, o6, o7, o8, o9, o10]) ∧ Deal H' p q ∧ Tabs (T3 tM tN tR) H')
    ⟨⟨_, _, _, _, _, _, _, _, _, rfl⟩, d0, tb0⟩ (fun i σ H1 hi pv => ?_) (fun σ H1 pv => ?_)
  · obtain ⟨⟨o2, o3, o4, o5, o6, o7, o8, o9, o10, rfl⟩, d1, t1⟩ := pv
    have W1 : Wd (T3 tM tN tR) p q H1 H1 := ⟨d1, t1, Kp.refl⟩
    clear d0 tb0
    walk_at "rd"
    refine ⟨p, q, rfl, d1, fun H2 tt vl nl k xs ws d2 f2 htt k1 k4 vlp vlq vl0 hvl pvs srt nd gw lw => ?_⟩
    have W2 : Wd (T3 tM tN tR) p q H2 H2 := (W1.fix d2 f2).fresh
    refine rd_gtup (Tup.of htt) rfl ?_
    have lx := paired_len pvs
    clear htt f2 d2 W1 t1 d1 vl0
    walk_at "rd"
    refine ⟨p, q, vl, xs, ws.map Sum.inr, rfl, W2.d, hvl, its_v pvs, by omega, fun H3 hl ys js d3 f3 hl0 hlp hlq pj pys hhl => ?_⟩
    obtain ⟨us, rfl, pus⟩ := perm_inr pj
    have pys := v_its pys
    have W3 := W2.fix d3 f3
    have lus := pus.length_eq
    have lys := paired_len pys
    have vh : vl ≠ hl := fun e => by rw [e, hl0] at hvl; cases hvl
    clear pj d3 f3
    walk_at "rd"
    refine rd_make ?_
    walk_at "rd"
    intro s1 dx1 hs1 hd1 _
    refine pol_good (by omega) (by omega) hs1 hd1 (.lst hhl) (by omega) (vs_vb (by omega) pys fun c hc => gw c (pus.mem_iff.mp hc)) (pus.nodup_iff.mpr nd) fun H4 S4 B4 => ⟨rfl, ?_⟩
    rw [sortV_of pus.symm srt] at B4
    have W4 := W3.same S4
    have hhl4 := S4 _ _ hhl
    have ly20 : ys.length < 1000 := by omega
    clear pys lys lus pus hs1 hd1 S4 hhl W3
    walk_at "rd"
    refine rd_makeK ?_
    walk_at "rd"
    refine rd_tupL (W4.k.ls _ _ vlp vlq hvl) ?_
    intro t5 H5 n5 S5 e5
    walk_at "rd"
    refine ⟨rfl, rfl, fun s2 dx2 hs2 hd2 _ => ?_⟩
    have W5 := W4.same S5
    have pv5 : Paired (VAt H5) xs ws := paired_mono pvs fun _ _ z => z.kp W5.k
    refine pol_good (by omega) (by omega) hs2 hd2 (.tup (Tup.of e5)) (by omega) (vs_vb (by omega) pv5 gw) nd fun H6 S6 B6 => ⟨rfl, ?_⟩
    rw [sortV_of (List.Perm.refl _) srt] at B6
    have W6 := W5.same S6
    have B6' := B4.same (S5.trans S6)
    have hhl6 := S6 _ _ (S5 _ _ hhl4)
    clear pv5 hs2 hd2 S6 e5 n5 S5 B4 hhl4 W4 W5
    walk_at "rd"
    refine rd_ty hhl6 ?_
    walk_at "rd"
    refine rd_app hhl6 (by omega) ?_
    have W7 := W6.put (ys := ys ++ [.non]) hl0 hhl6 hlp hlq
    have B7 := B6.upd (o := .lst (ys ++ [.non])) hhl6
    have B7' := B6'.upd (o := .lst (ys ++ [.non])) hhl6
    generalize upd H6 hl (.lst (ys ++ [.non])) = H7 at W7 B7 B7' ⊢
    clear hhl6 B6 B6' W6
    have rp := rep_pol (cs := ws) (k := ((k : Nat) : Int)) (by omega) (by omega) gw (by omega)
    have rv := rep_vs (cs := ws) (k := ((k : Nat) : Int)) (by omega) gw (by omega)
    walk_at "rd"
    obtain ⟨dx, t, dd, zs, hp, ht, hzs, hd⟩ := id B7'
    refine ⟨s1, _, dx, _, _, rfl, hp, T.C_Policy, T.A_Policy_modes, look_pm, ?_⟩
    walk_at "rd"
    refine ⟨s1, _, dx, _, _, rfl, hp, T.C_Policy, T.A_Policy_views, look_pv, ?_⟩
    walk_at "rd"
    intro t8 H8 n8 S8 e8
    walk_at "rd"
    refine rd_repr (.tup (SqT.of e8) (.cons (.int _) (.cons (.tup (ht.same S8).sq (dp_vs (paired_mono hzs fun _ _ z => z.same S8))) .nil))) rp.s rp.n rp.h rp.l ?_
    have W8 := W7.same S8
    walk_at "rd"
    refine rd_tupL (W8.k.ls _ _ vlp vlq hvl) ?_
    intro t9 H9 n9 S9 e9
    walk_at "rd"
    intro t10 H10 n10 S10 e10
    have W10 := (W8.same S9).same S10
    have pv10 : Paired (VAt H10) xs ws := paired_mono pvs fun _ _ z => z.kp W10.k
    walk_at "rd"
    refine rd_repr (.tup (SqT.of e10) (.cons (.int _) (.cons (.tup (SqT.of (S10 _ _ e9)) (dp_vs pv10)) .nil))) rp.s rp.n rp.h rp.l ?_
    refine rd_neS ?_
    walk_at "rd"
    refine iteF' (by simp) ?_
    have S710 := (S8.trans S9).trans S10
    have B10 := B7.same S710
    have B10' := B7'.same S710
    clear e8 e9 e10 n8 n9 n10 S8 S9 S10 S710 hp ht hzs hd B7 B7' W7 W8
    walk_at "rd"
    refine rd_ownP T.I_Policy B10' B10 ?_
    rw [decide_eq_true rfl, decide_eq_true rfl]
    walk_at "rd"
    refine iteF' rfl ?_
    walk_at "rd"
    refine rd_ownP T.I_Policy B10' B10 ?_
    rw [decide_eq_true rfl, decide_eq_true rfl]
    walk_at "rd"
    refine iteF' rfl ?_
    walk_at "rd"
    refine rd_tupL (W10.k.ls _ _ vlp vlq hvl) ?_
    intro t11 H11 n11 S11 e11
    walk_at "rd"
    intro t12 H12 n12 S12 e12
    have W12 := (W10.same S11).same S12
    have B12 := (B10.same S11).same S12
    have B12' := (B10'.same S11).same S12
    refine rd_ownPT B12' (.base (.tup e12)) nfT ktT ?_
    walk_at "rd"
    refine iteF' rfl ?_
    walk_at "rd"
    refine rd_ownPT B12' (.base (.int _)) nfI ktI ?_
    walk_at "rd"
    refine iteF' rfl ?_
    walk_at "rd"
    clear e11 e12 n11 n12 S11 S12 B10 B10' W10 pv10
    refine and_rest (fun H' => Wd (T3 tM tN tR) p q H2 H' ∧ PolAt P w T.c_Policy H' s1 ((k : Nat) : Int) ws ∧ PolAt P w T.c_Policy H' s2 ((k : Nat) : Int) ws) (fun H13 mid => ?_) (fun c1 R' hR' => ?_) (fun _ => ⟨W12, B12', B12⟩)
    rotate_left
    · have c1 := of_decide_eq_true c1
      walk_at "rd"
      refine rd_make ?_
      walk_at "rd"
      intro s3 dx3 hs3 hd3 _
      have hv12 := W12.k.ls _ _ vlp vlq hvl
      have pv12 : Paired (VAt H12) xs ws := paired_mono pvs fun _ _ z => z.kp W12.k
      refine pol_good (k := ((k : Nat) : Int) + 1) (by omega) (by omega) hs3 hd3 (.lst hv12) (by omega) (vs_vb (by omega) pv12 fun c hc => (gw c hc).up (by omega)) nd fun H14 S14 B14 => ⟨rfl, ?_⟩
      refine rd_ownP T.I_Policy (B12'.same S14) B14 ?_
      rw [decide_eq_false (by omega : ¬ ((k : Nat) : Int) = ((k : Nat) : Int) + 1)]
      walk_at "rd"
      exact hR' _ ⟨W12.same S14, B12'.same S14, B12.same S14⟩
    obtain ⟨W13, B13', B13⟩ := mid
    clear W12 B12 B12'
    refine iteF' rfl ?_
    walk_at "rd"
    have hv13 := W13.k.ls _ _ vlp vlq hvl
    have pv13 : Paired (VAt H13) xs ws := paired_mono pvs fun _ _ z => z.kp W13.k
    intro e14 H14 n14 S14 x14
    refine ⟨.list (ws.map dV), .list ([] : List PyData), .lst (SqL.of (S14 _ _ hv13)) (dp_vs (paired_mono pv13 fun _ _ z => z.same S14)), .lst (ds := []) (SqL.of x14) .nil, dV_shL ws, by decide, ?_⟩
    have ev : PyData.eqv (.list (ws.map dV)) (.list (([] : List Vw).map dV)) = decide (ws = []) := dV_eqv ws []
    have ev : PyData.eqv (.list (ws.map dV)) (.list ([] : List PyData)) = decide (ws = []) := ev
    rw [ev]
    have W14 := W13.same S14
    have B14 := B13.same S14
    have B14' := B13'.same S14
    clear W13 B13 B13' hv13 pv13 x14 S14 n14 ev
    walk_at "rd"
    refine and_rest (fun H' => Wd (T3 tM tN tR) p q H2 H' ∧ PolAt P w T.c_Policy H' s1 ((k : Nat) : Int) ws ∧ PolAt P w T.c_Policy H' s2 ((k : Nat) : Int) ws) (fun H15 mid => ?_) (fun c1 R' hR' => ?_) (fun _ => ⟨W14, B14', B14⟩)
    rotate_left
    · have c1 : ws ≠ [] := by
        intro e; rw [e] at c1; cases c1
      have lw0 := List.length_pos_iff.mpr c1
      walk_at "rd"
      refine rd_make ?_
      walk_at "rd"
      refine rd_slL (W14.k.ls _ _ vlp vlq hvl) fun a15 H15 n15 S15 x15 => ?_
      rw [cut_tail] at x15
      have W15 := W14.same S15
      have pv15 : Paired (VAt H15) xs ws := paired_mono pvs fun _ _ z => z.kp W15.k
      walk_at "rd"
      intro s3 dx3 hs3 hd3 _
      refine pol_good (k := ((k : Nat) : Int)) (by omega) (by omega) hs3 hd3 (.lst x15) (by rw [List.length_drop]; omega) (vs_vb (by omega) (paired_dp pv15 1) fun c hc => gw c (List.mem_of_mem_drop hc)) (nd.sublist (List.drop_sublist _ _)) fun H16 S16 B16 => ⟨rfl, ?_⟩
      refine rd_ownP T.I_Policy ((B14'.same S15).same S16) B16 ?_
      rw [sortV_of (List.Perm.refl _) (srt.sublist (List.drop_sublist _ _))]
      have : ¬ ws = ws.drop 1 := fun e => by
        have := congrArg List.length e
        rw [List.length_drop] at this; omega
      rw [decide_eq_false this, Bool.and_false]
      walk_at "rd"
      exact hR' _ ⟨W15.same S16, (B14'.same S15).same S16, (B14.same S15).same S16⟩
    obtain ⟨W15, B15', B15⟩ := mid
    clear W14 B14 B14'
    refine iteF' rfl ?_
    walk_at "rd"
    refine ⟨p, q, ((k : Nat) : Int), .non, rfl, .inl rfl, W15.d, by omega, by omega, fun C0 v wv dC0 fC0 hv0 gv => ?_⟩
    have X0 := W15.fix dC0 fC0
    have k0 := Kp.fix W15.d fC0
    walk_at "rd"
    intro b1 C1 n1 S1 e1
    have X1 := X0.same S1
    walk_at "rd"
    intro b2 C2 n2 S2 e2
    have X2 := X1.same S2
    walk_at "rd"
    intro b3 C3 n3 S3 e3
    have X3 := X2.same S3
    walk_at "rd"
    intro b4 C4 n4 S4 e4
    have X4 := X3.same S4
    walk_at "rd"
    intro b5 C5 n5 S5 e5
    have X5 := X4.same S5
    walk_at "rd"
    intro b6 C6 n6 S6 e6
    have X6 := X5.same S6
    walk_at "rd"
    intro b7 C7 n7 S7 e7
    have X7 := X6.same S7
    walk_at "rd"
    intro b8 C8 n8 S8 e8
    have X8 := X7.same S8
    walk_at "rd"
    intro b9 C9 n9 S9 e9
    have X9 := X8.same S9
    walk_at "rd"
    intro b10 C10 n10 S10 e10
    have X10 := X9.same S10
    have g1 := S10 _ _ (S9 _ _ (S8 _ _ (S7 _ _ (S6 _ _ (S5 _ _ (S4 _ _ (S3 _ _ (S2 _ _ (e1)))))))))
    have g2 := S10 _ _ (S9 _ _ (S8 _ _ (S7 _ _ (S6 _ _ (S5 _ _ (S4 _ _ (S3 _ _ (e2))))))))
    have g3 := S10 _ _ (S9 _ _ (S8 _ _ (S7 _ _ (S6 _ _ (S5 _ _ (S4 _ _ (e3)))))))
    have g4 := S10 _ _ (S9 _ _ (S8 _ _ (S7 _ _ (S6 _ _ (S5 _ _ (e4))))))
    have g5 := S10 _ _ (S9 _ _ (S8 _ _ (S7 _ _ (S6 _ _ (e5)))))
    have g6 := S10 _ _ (S9 _ _ (S8 _ _ (S7 _ _ (e6))))
    have g7 := S10 _ _ (S9 _ _ (S8 _ _ (e7)))
    have g8 := S10 _ _ (S9 _ _ (e8))
    have g9 := S10 _ _ (e9)
    have ne2 := X1.d.nes n2
    have ne3 := X2.d.nes n3
    have hv10 : VAt C10 (.ref v) wv := ((((((((((hv0.v).same S1).same S2).same S3).same S4).same S5).same S6).same S7).same S8).same S9).same S10
    have kX : Kp p q H15 C10 := k0.trans (Kp.same ((((((((((S1).trans S2).trans S3).trans S4).trans S5).trans S6).trans S7).trans S8).trans S9).trans S10))
    have asks : ∀ x ∈ [V.ref v, V.non, .int 3, .ref b2, .ref b4, .ref b6, .ref b7, .ref b9], Ask K p q C10 ws x := by
      intro x hx
      simp only [List.mem_cons, List.not_mem_nil, or_false] at hx
      rcases hx with h | h | h | h | h | h | h | h <;> subst h
      · exact .view wv (gv.up (by omega)) fun H' z => hv10.kp z
      · exact .none .none (by decide +kernel) (any_no fun _ => rfl) fun H' _ => ⟨.non, .ntp (.base .non) (by decide +kernel)⟩
      · exact .none (.int 3) (by decide +kernel) (any_no fun _ => rfl) fun H' _ => ⟨.int 3, .ntp (.base (.int 3)) (by decide +kernel)⟩
      · exact .none (.list [.int 0, .tuple []]) (by decide +kernel) (any_no fun _ => rfl) fun H' z => ⟨.lst (SqL.of (z.ls _ _ ne2.1 ne2.2 g2)) (.cons (.int 0) (.cons (.tup (SqT.of (z.tup g1)) .nil) .nil)), .ntp (.base (.lst (z.ls _ _ ne2.1 ne2.2 g2))) (by decide +kernel)⟩
      · refine .none (.tuple [.int 0, .list [.int 0]]) (by decide +kernel) (any_no fun c => ?_) fun H' z => ⟨.tup (SqT.of (z.tup g4)) (.cons (.int 0) (.cons (.lst (SqL.of (z.ls _ _ ne3.1 ne3.2 g3)) (.cons (.int 0) .nil)) .nil)), .row (Tup.of (z.tup g4)) (.int 0) (.base (.lst (z.ls _ _ ne3.1 ne3.2 g3))) (by decide +kernel)⟩
        show ((c.1 == 0) && (false && true)) = false
        simp
      · exact .bool b6 (.ref b5) (.tuple [.bool true, .tuple []]) rfl (by decide +kernel) fun H' z => ⟨Tup.of (z.tup g6), .tup (SqT.of (z.tup g6)) (.cons (.bl true) (.cons (.tup (SqT.of (z.tup g5)) .nil) .nil)), .mode (Tup.of (z.tup g6)) (kin_bl true) rfl⟩
      · refine .none (.tuple [.int 0]) (by decide +kernel) (any_no fun c => ?_) fun H' z => ⟨.tup (SqT.of (z.tup g7)) (.cons (.int 0) .nil), .len (Tup.of (z.tup g7)) (by decide)⟩
        show ((c.1 == 0) && false) = false
        simp
      · refine .none (.tuple [.tuple [.int 0, .int 0], .int 0]) (by decide +kernel) (any_no fun c => rfl) fun H' z => ⟨.tup (SqT.of (z.tup g9)) (.cons (.tup (SqT.of (z.tup g8)) (.cons (.int 0) (.cons (.int 0) .nil))) (.cons (.int 0) .nil)), .mode (Tup.of (z.tup g9)) (kin_tup (z.tup g8)) rfl⟩
    refine rd_cat (X10.k.ls _ _ vlp vlq hvl) e10 (by simp; omega) fun r C11 r0 S11 hr11 => ?_
    have X11 := X10.same S11
    have rne := X10.d.nes r0
    have kY : Kp p q H15 C11 := kX.trans (Kp.same S11)
    have asks : ∀ x ∈ xs ++ [V.ref v, V.non, .int 3, .ref b2, .ref b4, .ref b6, .ref b7, .ref b9], Ask K p q C11 ws x := fun x hx => by
      rcases List.mem_append.mp hx with h | h
      · obtain ⟨ix, hix⟩ := List.getElem?_of_mem h
        obtain ⟨c, hc, hxc⟩ := paired_get pvs hix
        exact .view c ((gw c (List.mem_of_getElem? hc)).up (by omega)) fun H' z => hxc.kp (X11.k.trans z)
      · exact (asks x h).kp (Kp.same S11)
    have B11 := B15.kp kY
    have B11' := B15'.kp kY
    clear hv10 kX kY k0 e1 n1 S1 e2 n2 S2 e3 n3 S3 e4 n4 S4 e5 n5 S5 e6 n6 S6 e7 n7 S7 e8 n8 S8 e9 n9 S9 e10 n10 S10 g1 g2 g3 g4 g5 g6 g7 g8 g9 X0 X1 X2 X3 X4 X5 X6 X7 X8 X9 X10 ne2 ne3 S11 r0 hv0 dC0 fC0 W15 B15 B15'
    generalize xs ++ [V.ref v, V.non, .int 3, .ref b2, .ref b4, .ref b6, .ref b7, .ref b9] = IT at hr11 asks
    walk_at "rd"
    refine ⟨r, rfl, ⟨_, SqL.of hr11⟩, for_list (xs := IT) (fun m σ H' => (∃ o9 o10, σ = [some (.ref a0), some (.ref p), some (.int (0 + ((i : Nat) : Int))), some (.int ((k : Nat) : Int)), some (.ref vl), some (.ref nl), some (.ref hl), some (.ref s1), some (.ref s2), o9, o10]) ∧ Wd (T3 tM tN tR) p q H2 H' ∧ Kp p q C11 H')
      ⟨⟨_, _, rfl⟩, X11, Kp.refl⟩ (fun m σ H' _ pv => SqL.of (pv.2.2.ls _ _ rne.1 rne.2 hr11)) (fun m x σ D1 hx pv => ?_) (fun σ D1 pv => ?_)⟩
    · obtain ⟨⟨o9, o10, rfl⟩, Y1, Z1⟩ := pv
      have ask := (asks x (List.mem_of_getElem? hx)).kp Z1
      have hv1 := Y1.k.ls _ _ vlp vlq hvl
      have pv1 : Paired (VAt D1) xs ws := paired_mono pvs fun _ _ z => z.kp Y1.k
      obtain ⟨o, hxo, hord⟩ : ∃ o : Option Vw, VwX K D1 x o ∧ ((∃ c, o = some c ∧ VAt D1 x c) ∨ (o = Option.none ∧ ∃ d, Dp K D1 x d ∧ SeqAt.shaped d = true ∧ (ws.map dV).any (fun z => PyData.eqv z d) = false) ∨ (o = Option.none ∧ ∃ a y d, x = .ref a ∧ Tup D1 a [.bl true, y] ∧ Dp K D1 x d ∧ SeqAt.shaped d = true)) := by
        cases ask with
        | view c g h => exact ⟨some c, (h D1 Kp.refl).vwx g, .inl ⟨c, rfl, h D1 Kp.refl⟩⟩
        | none d s n h => exact ⟨Option.none, (h D1 Kp.refl).2, .inr (.inl ⟨rfl, d, (h D1 Kp.refl).1, s, n⟩)⟩
        | bool a y d e s h => exact ⟨Option.none, (h D1 Kp.refl).2.2, .inr (.inr ⟨rfl, a, y, d, e, (h D1 Kp.refl).1, (h D1 Kp.refl).2.1, s⟩)⟩
      clear ask
      refine rd_name ?_
      refine rd_seq ?_
      refine rd_asg ?_
      refine rd_to (fun y H' => y = spotV ws o ∧ H' = D1) (fun Q' hQ' => ?_) (fun y D2 hy => ?_)
      · walk_at "rd"
        rcases hord with ⟨c, rfl, hc⟩ | ⟨rfl, d, hd, sd, na⟩ | ⟨rfl, a, y, d, rfl, ha, hd, sd⟩
        · refine ⟨dV c, ws.map dV, hc.dp, .lst (SqL.of hv1) (dp_vs pv1), dV_sh1 c, dV_shL ws, ?_⟩
          rw [dV_any]
          walk_at "rd"
          by_cases hin : c ∈ ws
          · refine iteT' (decide_eq_true hin) ?_
            obtain ⟨xa, xr, rfl, hxa, _⟩ := id hc
            walk_at "rd"
            refine rd_ixT hxa rfl ?_
            walk_at "rd"
            refine ⟨_, _, _, _, false, rfl, .ty "bool", .base (.int _), kit_ty (by decide +kernel), ?_⟩
            walk_at "rd"
            try with_reducible refine iteT' rfl ?_
            walk_at "rd"
            obtain ⟨j, hj⟩ := List.getElem?_of_mem hin
            refine rd_ty hv1 ?_
            walk_at "rd"
            refine ⟨vl, _, dV c, ws.map dV, j, dV c, rfl, rfl, .lst (SqL.of hv1) (dp_vs pv1), hc.dp, dV_shL ws, dV_sh1 c, by rw [List.getElem?_map, hj]; rfl, by rw [dV_eqv1, decide_eq_true rfl], idx_pre nd hj, ?_⟩
            refine hQ' _ _ ⟨?_, rfl⟩
            show _ = (valV (kvS 0 ws) (vKey c)).getD .non
            rw [kvS_get 0 nd hj, Nat.zero_add]; rfl
          · refine iteF' (decide_eq_false hin) ?_
            try with_reducible refine iteF' rfl ?_
            walk_at "rd"
            refine hQ' _ _ ⟨?_, rfl⟩
            show _ = (valV (kvS 0 ws) (vKey c)).getD .non
            rw [kvS_none 0 hin]; rfl
        · refine ⟨d, ws.map dV, hd, .lst (SqL.of hv1) (dp_vs pv1), sd, dV_shL ws, ?_⟩
          rw [na]
          walk_at "rd"
          try with_reducible refine iteF' rfl ?_
          try with_reducible refine iteF' rfl ?_
          walk_at "rd"
          exact hQ' _ _ ⟨rfl, rfl⟩
        · refine ⟨d, ws.map dV, hd, .lst (SqL.of hv1) (dp_vs pv1), sd, dV_shL ws, ?_⟩
          cases (ws.map dV).any fun z => PyData.eqv z d with
          | false =>
            walk_at "rd"
            try with_reducible refine iteF' rfl ?_
            try with_reducible refine iteF' rfl ?_
            walk_at "rd"
            exact hQ' _ _ ⟨rfl, rfl⟩
          | true =>
            walk_at "rd"
            try with_reducible refine iteT' rfl ?_
            walk_at "rd"
            refine rd_ixT ha rfl ?_
            walk_at "rd"
            refine ⟨_, _, _, _, true, rfl, .ty "bool", .base (.bl _), kit_ty (by decide +kernel), ?_⟩
            walk_at "rd"
            try with_reducible refine iteF' rfl ?_
            walk_at "rd"
            exact hQ' _ _ ⟨rfl, rfl⟩
      · obtain ⟨rfl, rfl⟩ := hy
        obtain ⟨du, hdu, rdu⟩ : ∃ du : PyData, (∀ H, Dp K H (spotV ws o) du) ∧ Rep du := by
          cases o with
          | none => exact ⟨.none, fun H => .non, rep_non⟩
          | some c =>
            by_cases hin : c ∈ ws
            · obtain ⟨j, hj⟩ := List.getElem?_of_mem hin
              have hj2 := (List.getElem?_eq_some_iff.mp hj).1
              have ev : spotV ws (some c) = .int ((j : Nat) : Int) := by
                show (valV (kvS 0 ws) (vKey c)).getD .non = _
                rw [kvS_get 0 nd hj, Nat.zero_add]; rfl
              rw [ev]
              exact ⟨.int _, fun H => .int _, (sm_int (i := ((j : Nat) : Int)) (by omega) (by omega)).rep (by decide) (by decide)⟩
            · have ev : spotV ws (some c) = .non := by
                show (valV (kvS 0 ws) (vKey c)).getD .non = _
                rw [kvS_none 0 hin]; rfl
              rw [ev]
              exact ⟨.none, fun H => .non, rep_non⟩
        have C1 := B11.kp Z1
        have C1' := B11'.kp Z1
        walk_at "rd"
        refine rd_meth ?_
        walk_at "rd"
        obtain ⟨dx, _, _, _, hp, _⟩ := id C1'
        refine ⟨s1, dx, _, rfl, hp, look_pn (by decide +kernel) (by decide +kernel) (by decide +kernel), ?_⟩
        walk_at "rd"
        refine ⟨s1, x, _, ws, o, rfl, C1', hxo, fun D3 S3 => ?_⟩
        walk_at "rd"
        refine rd_repr (hdu _) rdu.s rdu.n rdu.h rdu.l ?_
        walk_at "rd"
        refine rd_repr (hdu _) rdu.s rdu.n rdu.h rdu.l ?_
        refine rd_neS ?_
        walk_at "rd"
        refine iteF' (by simp) ?_
        walk_at "rd"
        refine rd_methK ?_
        walk_at "rd"
        obtain ⟨dx2, _, _, _, hp2, _⟩ := id (C1.same S3)
        refine ⟨s2, dx2, _, rfl, hp2, look_pn (by decide +kernel) (by decide +kernel) (by decide +kernel), ?_⟩
        walk_at "rd"
        refine ⟨rfl, s2, x, _, ws, o, rfl, C1.same S3, hxo.same S3, fun D4 S4 => ?_⟩
        walk_at "rd"
        refine rd_repr (hdu _) rdu.s rdu.n rdu.h rdu.l ?_
        walk_at "rd"
        refine rd_repr (hdu _) rdu.s rdu.n rdu.h rdu.l ?_
        refine rd_neS ?_
        walk_at "rd"
        refine iteF' (by simp) ?_
        walk_at "rd"
        exact ⟨⟨_, _, rfl⟩, (Y1.same S3).same S4, (Z1.trans (Kp.same S3)).trans (Kp.same S4)⟩
    · obtain ⟨⟨o9, o10, rfl⟩, Y1, Z1⟩ := pv
      have C1 := B11.kp Z1
      have C1' := B11'.kp Z1
      have VL1 : VL p q D1 vl ws := ⟨vlp, vlq, xs, Y1.k.ls _ _ vlp vlq hvl, paired_mono pvs fun _ _ z => z.kp Y1.k⟩
      walk_at "rd"
      refine ⟨p, q, vl, ((k : Nat) : Int), ws, rfl, Y1.fresh, by omega, by omega, VL1, nd, gw, lw, fun D2 Y2 => ?_⟩
      walk_at "rd"
      try with_reducible refine iteF' rfl ?_
      walk_at "rd"
      refine ⟨p, q, s1, vl, ((k : Nat) : Int), ws, rfl, Y2.fresh, C1'.kp Y2.k, VL1.kp Y2.k, lw, fun D3 Y3 => ?_⟩
      walk_at "rd"
      try with_reducible refine iteF' rfl ?_
      walk_at "rd"
      have K13 := Y2.k.trans Y3.k
      refine ⟨p, q, s1, vl, ((k : Nat) : Int), ws, rfl, Y3.fresh, C1'.kp K13, VL1.kp K13, by omega, by omega, srt, nd, gw, lw, fun D4 Y4 => ?_⟩
      walk_at "rd"
      try with_reducible refine iteF' rfl ?_
      walk_at "rd"
      have K14 := K13.trans Y4.k
      obtain ⟨dx, t, dd, zs, hp, ht, hzs, hd⟩ := C1'.kp K14
      refine ⟨s1, _, dx, _, _, rfl, hp, T.C_Policy, T.A_Policy_views, look_pv, ?_⟩
      walk_at "rd"
      refine rd_repr (.tup ht.sq (dp_vs hzs)) rv.s rv.n rv.h rv.l ?_
      obtain ⟨_, _, xs2, hxs2, pxs2⟩ := VL1.kp K14
      walk_at "rd"
      refine rd_tupL hxs2 ?_
      intro t5 D5 n5 S5 e5
      walk_at "rd"
      refine rd_repr (.tup (SqT.of e5) (dp_vs (paired_mono pxs2 fun _ _ z => z.same S5))) rv.s rv.n rv.h rv.l ?_
      refine rd_neS ?_
      walk_at "rd"
      refine iteF' (by simp) ?_
      walk_at "rd"
      have Y5 := Y4.same S5
      exact ⟨⟨_, _, _, _, _, _, _, _, _, rfl⟩, Y5.d, Y5.t⟩
  · obtain ⟨⟨o2, o3, o4, o5, o6, o7, o8, o9, o10, rfl⟩, d1, t1⟩ := pv
    walk_at "rd"
    refine ⟨p, q, 2, rfl, d1, by decide, by decide, fun H2 u d2 f2 u0 u1 => ?_⟩
    obtain ⟨a, rfl⟩ := Int.eq_ofNat_of_zero_le u0
    walk_at "rd"
    refine ⟨p, q, 5, rfl, d2, by decide, by decide, fun H3 v d3 f3 v0 v1 => ?_⟩
    obtain ⟨b, rfl⟩ := Int.eq_ofNat_of_zero_le v0
    walk_at "rd"
    exact ⟨p, q, 3 + a, b, rfl, d3, by omega, by omega, by omega, fun H4 => hQ H4⟩
end
end K03

namespace K03
open PySem PySem.Spec PyProof.Rows L2 L2H KX
/-! what the top has written, as one test -/
def ClsAt (K : PySem.W.Frag) (c : Addr) : Prop := ∃ nm q N bs bm sn sub ab col dd k0 k1 k2 k3 k5,
  K.lookup c = some (excClassObj nm q c N bs bm true sn sub ab col dd k0 k1 k2 k3 k5 "ValueError.__new__") ∧ PySem.HandSPX.refsVE bm = true
def IniAt (K : PySem.W.Frag) (qn : Str) (f : Addr) : Prop :=
  ∃ (oc : Value) (od : Option Addr) (doc pm : Value) (an : Option Addr) (cdv ct : Value) (osl : Array (Option Value)) (p1 p2 q1 q2 q3 q4 : Pos),
    K.lookup f = some ⟨oc, od, .func (PySem.W.fnOf "__init__" qn (PySem.ErrX.iA p1 p2) (PySem.ErrX.iB q1 q2 q3 q4) PySem.ErrX.iS .none .none doc pm an cdv ct), osl⟩ ∧
      PySem.W.codeIn K cdv qn = true
def okE (K : PySem.W.Frag) (c f cn : Addr) : Bool :=
  xfB K c && (decide (PySem.W.findIn K (.ref c) "at" = some none) &&
  (decide (PySem.W.findIn K (.ref c) "__setattr__" = some (some (.builtin "object.__setattr__"))) &&
  (decide (PySem.W.findIn K (.ref c) "__init__" = some (some (.ref f))) &&
  (decide (PySem.W.typeIn K (.ref f) = some (.type "function")) && (PySem.W.keepIn K (.ref c) &&
  (decide (PySem.W.typeIn K (.ref c) = some (.type "type")) && (decide (PySem.W.exmOne K (.ref c) (.ref c) = some true) &&
  (decide (PySem.W.findIn K (.ref c) "__class__" = some (some (.builtin "object.__class__"))) &&
  (decide (PySem.W.specialIn K (.builtin "object.__class__") "__get__" = some (some (.builtin "getset_descriptor.__get__"))) &&
  (decide (PySem.W.takesIn K (.builtin "object.__class__") = some true) && (decide (PySem.W.mroIn K c (.type "object") = some true) &&
  (decide (PySem.W.kitOne K (.ref c) (.type "ValueError") = some true) &&
   decide (PySem.W.exmOne K (.ref c) (.ref cn) = some true)))))))))))))
structure OkE (K : PySem.W.Frag) (c f cn : Addr) : Prop where
  xf : XfC K c
  no : PySem.W.findIn K (.ref c) "at" = some none
  sa : PySem.W.findIn K (.ref c) "__setattr__" = some (some (.builtin "object.__setattr__"))
  ini : PySem.W.findIn K (.ref c) "__init__" = some (some (.ref f))
  tf : PySem.W.typeIn K (.ref f) = some (.type "function")
  kc : PySem.W.keepIn K (.ref c) = true
  ty : PySem.W.typeIn K (.ref c) = some (.type "type")
  te : PySem.W.exmOne K (.ref c) (.ref c) = some true
  ha : PySem.W.findIn K (.ref c) "__class__" = some (some (.builtin "object.__class__"))
  hn : PySem.W.specialIn K (.builtin "object.__class__") "__get__" = some (some (.builtin "getset_descriptor.__get__"))
  ht : PySem.W.takesIn K (.builtin "object.__class__") = some true
  hm : PySem.W.mroIn K c (.type "object") = some true
  ve : PySem.W.kitOne K (.ref c) (.type "ValueError") = some true
  exm : PySem.W.exmOne K (.ref c) (.ref cn) = some true
theorem okE_ok {K : PySem.W.Frag} {c f cn : Addr} (h : okE K c f cn = true) : OkE K c f cn := by
  unfold okE at h
  simp only [Bool.and_eq_true, decide_eq_true_eq] at h
  obtain ⟨h1, h2, h3, h4, h5, h6, h7, h8, h9, h10, h11, h12, h13, h14⟩ := h
  exact ⟨xfB_ok h1, h2, h3, h4, h5, h6, h7, h8, h9, h10, h11, h12, h13, h14⟩
theorem err_of {K : PySem.W.Frag} {mg : Str → Option Value} {en qn : Str} {c f cn : Addr} (z : OkE K c f cn)
    (g : mg en = some (.ref c)) (hc : ClsAt K c) (hf : IniAt K qn f) : PySem.ErrX.ErrTxt K mg en qn c f :=
  ⟨g, hc, z.sa, z.xf.ga, z.xf.gg, z.no, z.ini, z.tf, z.kc, z.xf.exC, z.ty, z.xf.hdC, z.te, hf⟩
/-- a def of the top, or of a class, at f -/
def DefAt (K : PySem.W.Frag) (x q : Str) (st : Stmt) (f : Addr) : Prop :=
  ∃ (oc : Value) (od : Option Addr) (kV doc pm : Value) (an : Option Addr) (cdv ct : Value) (osl : Array (Option Value)),
    K.lookup f = some ⟨oc, od, .func (PySem.W.fnOf x q (defArgs st) (defBody st) (defScope st) .none kV doc pm an cdv ct), osl⟩ ∧
      PySem.W.codeIn K cdv q = true
theorem fun_of {K : PySem.W.Frag} {x q : Str} {st : Stmt} {f : Addr} (h : DefAt K x q st f) (k : PySem.W.keepIn K (.ref f) = true) :
    ∃ fd kV doc pm an cdv ct, fd = PySem.W.fnOf x q (defArgs st) (defBody st) (defScope st) .none kV doc pm an cdv ct ∧ Fun K x q st f fd := by
  obtain ⟨oc, od, kV, doc, pm, an, cdv, ct, osl, l, c⟩ := h
  exact ⟨_, kV, doc, pm, an, cdv, ct, rfl, fun_mk l c k⟩
/-- a def whose code object is known -/
def DefCAt (K : PySem.W.Frag) (x : Str) (st : Stmt) (f c : Addr) : Prop :=
  ∃ (oc : Value) (od : Option Addr) (kV doc pm : Value) (an : Option Addr) (ct : Value) (osl : Array (Option Value)),
    K.lookup f = some ⟨oc, od, .func (PySem.W.fnOf x x (defArgs st) (defBody st) (defScope st) .none kV doc pm an (.ref c) ct), osl⟩ ∧ PySem.W.codeIn K (.ref c) x = true
theorem defC_of {K : PySem.W.Frag} {x : Str} {st : Stmt} {f c : Addr} (h : DefCAt K x st f c) (k : PySem.W.keepIn K (.ref f) = true) : ∃ fd, DefC K x st f c fd ∧ Fun K x x st f fd := by
  obtain ⟨oc, od, kV, doc, pm, an, ct, osl, l, hc⟩ := h
  exact ⟨_, ⟨oc, od, kV, doc, pm, an, ct, osl, rfl, l, hc⟩, fun_mk l hc k⟩
/-- what is asked of a class with an own == -/
def okC (K : PySem.W.Frag) (c i e : Addr) (fs : List Str) : Bool :=
  PySem.W.plainGet K c Str.empty && (PySem.W.hasDictIn K c && (PySem.W.plainOver K c &&
  (decide (PySem.W.findIn K (.ref c) "__setattr__" = some (some (.builtin "object.__setattr__"))) &&
  (fs.all (fun f => decide (PySem.W.findIn K (.ref c) f = some none)) && (PySem.W.makesIn K c &&
  (decide (PySem.W.findIn K (.ref c) "__init__" = some (some (.ref i))) && (PySem.W.isFn K (.ref i) && (PySem.W.keepIn K (.ref c) &&
  (decide (PySem.W.findIn K (.ref c) "__class__" = some (some (.builtin "object.__class__"))) &&
  (decide (PySem.W.specialIn K (.builtin "object.__class__") "__get__" = some (some (.builtin "getset_descriptor.__get__"))) &&
  (decide (PySem.W.takesIn K (.builtin "object.__class__") = some true) && (decide (PySem.W.mroIn K c (.type "object") = some true) &&
  (decide (PySem.W.kitOne K (.ref c) (.ref c) = some true) &&
  (decide (PySem.W.findIn K (.ref c) "__eq__" = some (some (.ref e))) && (PySem.W.isFn K (.ref e) &&
  (decide (PySem.W.findIn K (.ref c) "__ne__" = some (some (.builtin "object.__ne__"))) &&
  (PySem.W.notFirst K c (.type "tuple") && decide (PySem.W.kitOne K (.type "tuple") (.ref c) = some false))))))))))))))))))
structure KCl (K : PySem.W.Frag) (c i e : Addr) (fs : List Str) : Prop where
  cls : Cls K c
  no : ∀ f ∈ fs, NoAttr K c f
  mks : Mk K c i
  isi : IsCls K c
  own : OwnC K c e
  nf : PySem.W.notFirst K c (.type "tuple") = true
  kt : PySem.W.kitOne K (.type "tuple") (.ref c) = some false
theorem okC_ok {K : PySem.W.Frag} {c i e : Addr} {fs : List Str} (h : okC K c i e fs = true) : KCl K c i e fs := by
  unfold okC at h
  simp only [Bool.and_eq_true, decide_eq_true_eq, List.all_eq_true] at h
  obtain ⟨h1, h2, h3, h4, h5, h6, h7, h8, h9, h10, h11, h12, h13, h14, h15, h16, h17, h18, h19⟩ := h
  have C : Cls K c := ⟨h1, h2, h3, h4⟩
  exact ⟨C, fun f hf => h5 f hf, ⟨h6, h7, h8, h9⟩, ⟨C, h10, h11, h12, h13, h14⟩, ⟨h15, h16, h17, h13⟩, h18, h19⟩
theorem all3 {α : Type} {P : α → Prop} {x y z : α} (a : P x) (b : P y) (c : P z) : ∀ p ∈ [x, y, z], P p := fun p hp => by
  simp only [List.mem_cons, List.not_mem_nil, or_false] at hp
  rcases hp with rfl | rfl | rfl <;> assumption
theorem all_tabs {α : Type} {P : α → Prop} {x0 x1 x2 : α} (hx0 : P x0) (hx1 : P x1) (hx2 : P x2) : ∀ p ∈ [x0, x1, x2], P p := fun p hp => by
  simp only [List.mem_cons, List.not_mem_nil, or_false] at hp
  rcases hp with rfl | rfl | rfl <;> assumption
theorem all_mk {l : PySem.W.OpenLaw} {w : World} {K : PySem.W.Frag} {h : Heap} {mg : Str → Option Value} {fa : Addr} (X : K.In h)
    (G : h.Ns mainGlobals mg) (hfa : mg "law" = some (.ref fa))
    {f_is_integer f_is_number f_is_below f_is_sequence f_is_tuple_of f_is_mode f_are_neighbours f_is_view f_is_view_below f_checked_views f_part f_checked_scores f_checked_integers f__law_draw f__law_any f__law_of f__law_links f__law_network f__law_views f__law_other f__law_policy f__law_mixed f__law_refused f__law_views_refused f__law_scores_right f__law_part_right f__law_all_right f_law c_Policy f_Policy_init f_Policy_eq f_Policy_spot c_InvalidPolicy i_InvalidPolicy c_InvalidView i_InvalidView c_InvalidScore i_InvalidScore c_InvalidQuestion i_InvalidQuestion cM tM cN tN cR tR cn : Addr} {t_MOST_MODES t_MOST_NEIGHBOURS : Tok}
    (a_InvalidPolicy : PySem.W.nsIn K mainGlobals "InvalidPolicy" = some (some (.ref c_InvalidPolicy)))
    (i__InvalidPolicy : PySem.W.findIn K (.ref c_InvalidPolicy) "__init__" = some (some (.ref i_InvalidPolicy)))
    (ok_InvalidPolicy : okE K c_InvalidPolicy i_InvalidPolicy c_InvalidPolicy = true)
    (x_InvalidPolicy : ClsAt K c_InvalidPolicy)
    (y_InvalidPolicy : IniAt K "InvalidPolicy.__init__" i_InvalidPolicy)
    (a_InvalidView : PySem.W.nsIn K mainGlobals "InvalidView" = some (some (.ref c_InvalidView)))
    (i__InvalidView : PySem.W.findIn K (.ref c_InvalidView) "__init__" = some (some (.ref i_InvalidView)))
    (ok_InvalidView : okE K c_InvalidView i_InvalidView c_InvalidView = true)
    (x_InvalidView : ClsAt K c_InvalidView)
    (y_InvalidView : IniAt K "InvalidView.__init__" i_InvalidView)
    (a_InvalidScore : PySem.W.nsIn K mainGlobals "InvalidScore" = some (some (.ref c_InvalidScore)))
    (i__InvalidScore : PySem.W.findIn K (.ref c_InvalidScore) "__init__" = some (some (.ref i_InvalidScore)))
    (ok_InvalidScore : okE K c_InvalidScore i_InvalidScore c_InvalidScore = true)
    (x_InvalidScore : ClsAt K c_InvalidScore)
    (y_InvalidScore : IniAt K "InvalidScore.__init__" i_InvalidScore)
    (a_InvalidQuestion : PySem.W.nsIn K mainGlobals "InvalidQuestion" = some (some (.ref c_InvalidQuestion)))
    (i__InvalidQuestion : PySem.W.findIn K (.ref c_InvalidQuestion) "__init__" = some (some (.ref i_InvalidQuestion)))
    (ok_InvalidQuestion : okE K c_InvalidQuestion i_InvalidQuestion c_InvalidQuestion = true)
    (x_InvalidQuestion : ClsAt K c_InvalidQuestion)
    (y_InvalidQuestion : IniAt K "InvalidQuestion.__init__" i_InvalidQuestion)
    (g_MOST_MODES : PySem.W.nsIn K mainGlobals "MOST_MODES" = some (some (.int 4 t_MOST_MODES)))
    (g_MOST_NEIGHBOURS : PySem.W.nsIn K mainGlobals "MOST_NEIGHBOURS" = some (some (.int 4 t_MOST_NEIGHBOURS)))
    (g_is_integer : PySem.W.nsIn K mainGlobals "is_integer" = some (some (.ref f_is_integer)))
    (e_is_integer : DefAt K "is_integer" "is_integer" s_is_integer f_is_integer)
    (k_is_integer : PySem.W.keepIn K (.ref f_is_integer) = true)
    (g_is_number : PySem.W.nsIn K mainGlobals "is_number" = some (some (.ref f_is_number)))
    (e_is_number : DefAt K "is_number" "is_number" s_is_number f_is_number)
    (k_is_number : PySem.W.keepIn K (.ref f_is_number) = true)
    (g_is_below : PySem.W.nsIn K mainGlobals "is_below" = some (some (.ref f_is_below)))
    (e_is_below : DefAt K "is_below" "is_below" s_is_below f_is_below)
    (k_is_below : PySem.W.keepIn K (.ref f_is_below) = true)
    (g_is_sequence : PySem.W.nsIn K mainGlobals "is_sequence" = some (some (.ref f_is_sequence)))
    (e_is_sequence : DefAt K "is_sequence" "is_sequence" s_is_sequence f_is_sequence)
    (k_is_sequence : PySem.W.keepIn K (.ref f_is_sequence) = true)
    (g_is_tuple_of : PySem.W.nsIn K mainGlobals "is_tuple_of" = some (some (.ref f_is_tuple_of)))
    (e_is_tuple_of : DefAt K "is_tuple_of" "is_tuple_of" s_is_tuple_of f_is_tuple_of)
    (k_is_tuple_of : PySem.W.keepIn K (.ref f_is_tuple_of) = true)
    (g_is_mode : PySem.W.nsIn K mainGlobals "is_mode" = some (some (.ref f_is_mode)))
    (e_is_mode : DefAt K "is_mode" "is_mode" s_is_mode f_is_mode)
    (k_is_mode : PySem.W.keepIn K (.ref f_is_mode) = true)
    (g_are_neighbours : PySem.W.nsIn K mainGlobals "are_neighbours" = some (some (.ref f_are_neighbours)))
    (e_are_neighbours : DefAt K "are_neighbours" "are_neighbours" s_are_neighbours f_are_neighbours)
    (k_are_neighbours : PySem.W.keepIn K (.ref f_are_neighbours) = true)
    (g_is_view : PySem.W.nsIn K mainGlobals "is_view" = some (some (.ref f_is_view)))
    (e_is_view : DefAt K "is_view" "is_view" s_is_view f_is_view)
    (k_is_view : PySem.W.keepIn K (.ref f_is_view) = true)
    (g_is_view_below : PySem.W.nsIn K mainGlobals "is_view_below" = some (some (.ref f_is_view_below)))
    (e_is_view_below : DefAt K "is_view_below" "is_view_below" s_is_view_below f_is_view_below)
    (k_is_view_below : PySem.W.keepIn K (.ref f_is_view_below) = true)
    (g_checked_views : PySem.W.nsIn K mainGlobals "checked_views" = some (some (.ref f_checked_views)))
    (e_checked_views : DefAt K "checked_views" "checked_views" s_checked_views f_checked_views)
    (k_checked_views : PySem.W.keepIn K (.ref f_checked_views) = true)
    (g_part : PySem.W.nsIn K mainGlobals "part" = some (some (.ref f_part)))
    (e_part : DefAt K "part" "part" s_part f_part)
    (k_part : PySem.W.keepIn K (.ref f_part) = true)
    (g_checked_scores : PySem.W.nsIn K mainGlobals "checked_scores" = some (some (.ref f_checked_scores)))
    (e_checked_scores : DefAt K "checked_scores" "checked_scores" s_checked_scores f_checked_scores)
    (k_checked_scores : PySem.W.keepIn K (.ref f_checked_scores) = true)
    (g_checked_integers : PySem.W.nsIn K mainGlobals "checked_integers" = some (some (.ref f_checked_integers)))
    (e_checked_integers : DefAt K "checked_integers" "checked_integers" s_checked_integers f_checked_integers)
    (k_checked_integers : PySem.W.keepIn K (.ref f_checked_integers) = true)
    (g__law_draw : PySem.W.nsIn K mainGlobals "_law_draw" = some (some (.ref f__law_draw)))
    (e__law_draw : DefAt K "_law_draw" "_law_draw" s__law_draw f__law_draw)
    (k__law_draw : PySem.W.keepIn K (.ref f__law_draw) = true)
    (g__law_any : PySem.W.nsIn K mainGlobals "_law_any" = some (some (.ref f__law_any)))
    (e__law_any : DefAt K "_law_any" "_law_any" s__law_any f__law_any)
    (k__law_any : PySem.W.keepIn K (.ref f__law_any) = true)
    (g__law_of : PySem.W.nsIn K mainGlobals "_law_of" = some (some (.ref f__law_of)))
    (e__law_of : DefAt K "_law_of" "_law_of" s__law_of f__law_of)
    (k__law_of : PySem.W.keepIn K (.ref f__law_of) = true)
    (g__law_links : PySem.W.nsIn K mainGlobals "_law_links" = some (some (.ref f__law_links)))
    (e__law_links : DefAt K "_law_links" "_law_links" s__law_links f__law_links)
    (k__law_links : PySem.W.keepIn K (.ref f__law_links) = true)
    (g__law_network : PySem.W.nsIn K mainGlobals "_law_network" = some (some (.ref f__law_network)))
    (e__law_network : DefAt K "_law_network" "_law_network" s__law_network f__law_network)
    (k__law_network : PySem.W.keepIn K (.ref f__law_network) = true)
    (g__law_views : PySem.W.nsIn K mainGlobals "_law_views" = some (some (.ref f__law_views)))
    (e__law_views : DefAt K "_law_views" "_law_views" s__law_views f__law_views)
    (k__law_views : PySem.W.keepIn K (.ref f__law_views) = true)
    (g__law_other : PySem.W.nsIn K mainGlobals "_law_other" = some (some (.ref f__law_other)))
    (e__law_other : DefAt K "_law_other" "_law_other" s__law_other f__law_other)
    (k__law_other : PySem.W.keepIn K (.ref f__law_other) = true)
    (g__law_policy : PySem.W.nsIn K mainGlobals "_law_policy" = some (some (.ref f__law_policy)))
    (e__law_policy : DefAt K "_law_policy" "_law_policy" s__law_policy f__law_policy)
    (k__law_policy : PySem.W.keepIn K (.ref f__law_policy) = true)
    (g__law_mixed : PySem.W.nsIn K mainGlobals "_law_mixed" = some (some (.ref f__law_mixed)))
    (e__law_mixed : DefAt K "_law_mixed" "_law_mixed" s__law_mixed f__law_mixed)
    (k__law_mixed : PySem.W.keepIn K (.ref f__law_mixed) = true)
    (g__law_refused : PySem.W.nsIn K mainGlobals "_law_refused" = some (some (.ref f__law_refused)))
    (e__law_refused : DefAt K "_law_refused" "_law_refused" s__law_refused f__law_refused)
    (k__law_refused : PySem.W.keepIn K (.ref f__law_refused) = true)
    (g__law_views_refused : PySem.W.nsIn K mainGlobals "_law_views_refused" = some (some (.ref f__law_views_refused)))
    (e__law_views_refused : DefCAt K "_law_views_refused" s__law_views_refused f__law_views_refused cM)
    (k__law_views_refused : PySem.W.keepIn K (.ref f__law_views_refused) = true)
    (g__law_scores_right : PySem.W.nsIn K mainGlobals "_law_scores_right" = some (some (.ref f__law_scores_right)))
    (e__law_scores_right : DefCAt K "_law_scores_right" s__law_scores_right f__law_scores_right cN)
    (k__law_scores_right : PySem.W.keepIn K (.ref f__law_scores_right) = true)
    (g__law_part_right : PySem.W.nsIn K mainGlobals "_law_part_right" = some (some (.ref f__law_part_right)))
    (e__law_part_right : DefCAt K "_law_part_right" s__law_part_right f__law_part_right cR)
    (k__law_part_right : PySem.W.keepIn K (.ref f__law_part_right) = true)
    (g__law_all_right : PySem.W.nsIn K mainGlobals "_law_all_right" = some (some (.ref f__law_all_right)))
    (e__law_all_right : DefAt K "_law_all_right" "_law_all_right" s__law_all_right f__law_all_right)
    (k__law_all_right : PySem.W.keepIn K (.ref f__law_all_right) = true)
    (g_law : PySem.W.nsIn K mainGlobals "law" = some (some (.ref f_law)))
    (e_law : DefAt K "law" "law" s_law f_law)
    (k_law : PySem.W.keepIn K (.ref f_law) = true)
    (g_Policy : PySem.W.nsIn K mainGlobals "Policy" = some (some (.ref c_Policy)))
    (j_Policy_init : PySem.W.findIn K (.ref c_Policy) "__init__" = some (some (.ref f_Policy_init)))
    (j_Policy_eq : PySem.W.findIn K (.ref c_Policy) "__eq__" = some (some (.ref f_Policy_eq)))
    (j_Policy_spot : PySem.W.findIn K (.ref c_Policy) "spot" = some (some (.ref f_Policy_spot)))
    (n__Policy_spot : PySem.W.isFn K (.ref f_Policy_spot) = true)
    (okc_Policy : okC K c_Policy f_Policy_init f_Policy_eq ["modes", "views", "_spots"] = true)
    (e_Policy_init : DefAt K "__init__" "Policy.__init__" s_Policy_init f_Policy_init)
    (k_Policy_init : PySem.W.keepIn K (.ref f_Policy_init) = true)
    (e_Policy_eq : DefAt K "__eq__" "Policy.__eq__" s_Policy_eq f_Policy_eq)
    (k_Policy_eq : PySem.W.keepIn K (.ref f_Policy_eq) = true)
    (e_Policy_spot : DefAt K "spot" "Policy.spot" s_Policy_spot f_Policy_spot)
    (k_Policy_spot : PySem.W.keepIn K (.ref f_Policy_spot) = true)
    (a_NetError : PySem.W.nsIn K mainGlobals "NetError" = some (some (.ref cn)))
    (x_vp_ : PySem.W.exmOne K (.ref c_InvalidView) (.ref c_InvalidPolicy) = some false)
    (x_sp_ : PySem.W.exmOne K (.ref c_InvalidScore) (.ref c_InvalidPolicy) = some false)
    (x_sv_ : PySem.W.exmOne K (.ref c_InvalidScore) (.ref c_InvalidView) = some false)
    (x_qp_ : PySem.W.exmOne K (.ref c_InvalidQuestion) (.ref c_InvalidPolicy) = some false)
    (x_qv_ : PySem.W.exmOne K (.ref c_InvalidQuestion) (.ref c_InvalidView) = some false)
    (x_qs_ : PySem.W.exmOne K (.ref c_InvalidQuestion) (.ref c_InvalidScore) = some false)
    (nfI_ : PySem.W.notFirst K c_Policy (.type "int") = true)
    (ktI_ : PySem.W.kitOne K (.type "int") (.ref c_Policy) = some false)
    (neMN : tM ≠ tN)
    (neMR : tM ≠ tR)
    (neNR : tN ≠ tR)
    (z_int : PySem.W.nsIn K mainGlobals "int" = some none)
    (z_bool : PySem.W.nsIn K mainGlobals "bool" = some none)
    (z_abs : PySem.W.nsIn K mainGlobals "abs" = some none)
    (z_len : PySem.W.nsIn K mainGlobals "len" = some none)
    (z_min : PySem.W.nsIn K mainGlobals "min" = some none)
    (z_max : PySem.W.nsIn K mainGlobals "max" = some none)
    (z_sorted : PySem.W.nsIn K mainGlobals "sorted" = some none)
    (z_tuple : PySem.W.nsIn K mainGlobals "tuple" = some none)
    (z_list : PySem.W.nsIn K mainGlobals "list" = some none)
    (z_range : PySem.W.nsIn K mainGlobals "range" = some none)
    (z_repr : PySem.W.nsIn K mainGlobals "repr" = some none)
    (z_isinstance : PySem.W.nsIn K mainGlobals "isinstance" = some none)
    (z_enumerate : PySem.W.nsIn K mainGlobals "enumerate" = some none)
    (z_all : PySem.W.nsIn K mainGlobals "all" = some none)
    : ∃ fd : FuncData, (∀ (s : Shared) (u : Value), BindsTo s fd ⟨[u], []⟩ [("script", u)]) ∧
      ∀ base : Heap, K.In base → base.Ns mainGlobals mg → (∀ p ∈ [(cM, tM), (cN, tN), (cR, tR)], LamX.TabB base mg p.1 p.2) → FnR l.prog w K mg base CX0 (CG 17) fa fd ["script"] (spLaw tM tN tR K) := by
  have e := hfa.symm.trans (PySem.W.mg_of X G g_law)
  cases e
  have OK_InvalidPolicy := okE_ok ok_InvalidPolicy
  have EE_InvalidPolicy : PySem.ErrX.ErrTxt K mg "InvalidPolicy" "InvalidPolicy.__init__" c_InvalidPolicy i_InvalidPolicy := err_of OK_InvalidPolicy (PySem.W.mg_of X G a_InvalidPolicy) x_InvalidPolicy y_InvalidPolicy
  have OK_InvalidView := okE_ok ok_InvalidView
  have EE_InvalidView : PySem.ErrX.ErrTxt K mg "InvalidView" "InvalidView.__init__" c_InvalidView i_InvalidView := err_of OK_InvalidView (PySem.W.mg_of X G a_InvalidView) x_InvalidView y_InvalidView
  have OK_InvalidScore := okE_ok ok_InvalidScore
  have EE_InvalidScore : PySem.ErrX.ErrTxt K mg "InvalidScore" "InvalidScore.__init__" c_InvalidScore i_InvalidScore := err_of OK_InvalidScore (PySem.W.mg_of X G a_InvalidScore) x_InvalidScore y_InvalidScore
  have OK_InvalidQuestion := okE_ok ok_InvalidQuestion
  have EE_InvalidQuestion : PySem.ErrX.ErrTxt K mg "InvalidQuestion" "InvalidQuestion.__init__" c_InvalidQuestion i_InvalidQuestion := err_of OK_InvalidQuestion (PySem.W.mg_of X G a_InvalidQuestion) x_InvalidQuestion y_InvalidQuestion
  have KC_Policy := okC_ok okc_Policy
  obtain ⟨d_is_integer, _, _, _, _, _, _, _, F_is_integer⟩ := fun_of e_is_integer k_is_integer
  obtain ⟨d_is_number, _, _, _, _, _, _, _, F_is_number⟩ := fun_of e_is_number k_is_number
  obtain ⟨d_is_below, _, _, _, _, _, _, _, F_is_below⟩ := fun_of e_is_below k_is_below
  obtain ⟨d_is_sequence, _, _, _, _, _, _, _, F_is_sequence⟩ := fun_of e_is_sequence k_is_sequence
  obtain ⟨d_is_tuple_of, _, _, _, _, _, _, _, F_is_tuple_of⟩ := fun_of e_is_tuple_of k_is_tuple_of
  obtain ⟨d_is_mode, _, _, _, _, _, _, _, F_is_mode⟩ := fun_of e_is_mode k_is_mode
  obtain ⟨d_are_neighbours, _, _, _, _, _, _, _, F_are_neighbours⟩ := fun_of e_are_neighbours k_are_neighbours
  obtain ⟨d_is_view, _, _, _, _, _, _, _, F_is_view⟩ := fun_of e_is_view k_is_view
  obtain ⟨d_is_view_below, _, _, _, _, _, _, _, F_is_view_below⟩ := fun_of e_is_view_below k_is_view_below
  obtain ⟨d_checked_views, _, _, _, _, _, _, _, F_checked_views⟩ := fun_of e_checked_views k_checked_views
  obtain ⟨d_part, _, _, _, _, _, _, _, F_part⟩ := fun_of e_part k_part
  obtain ⟨d_checked_scores, _, _, _, _, _, _, _, F_checked_scores⟩ := fun_of e_checked_scores k_checked_scores
  obtain ⟨d_checked_integers, _, _, _, _, _, _, _, F_checked_integers⟩ := fun_of e_checked_integers k_checked_integers
  obtain ⟨d__law_draw, _, _, _, _, _, _, _, F__law_draw⟩ := fun_of e__law_draw k__law_draw
  obtain ⟨d__law_any, _, _, _, _, _, _, _, F__law_any⟩ := fun_of e__law_any k__law_any
  obtain ⟨d__law_of, _, _, _, _, _, _, _, F__law_of⟩ := fun_of e__law_of k__law_of
  obtain ⟨d__law_links, _, _, _, _, _, _, _, F__law_links⟩ := fun_of e__law_links k__law_links
  obtain ⟨d__law_network, _, _, _, _, _, _, _, F__law_network⟩ := fun_of e__law_network k__law_network
  obtain ⟨d__law_views, _, _, _, _, _, _, _, F__law_views⟩ := fun_of e__law_views k__law_views
  obtain ⟨d__law_other, _, _, _, _, _, _, _, F__law_other⟩ := fun_of e__law_other k__law_other
  obtain ⟨d__law_policy, _, _, _, _, _, _, _, F__law_policy⟩ := fun_of e__law_policy k__law_policy
  obtain ⟨d__law_mixed, _, _, _, _, _, _, _, F__law_mixed⟩ := fun_of e__law_mixed k__law_mixed
  obtain ⟨d__law_refused, _, _, _, _, _, _, _, F__law_refused⟩ := fun_of e__law_refused k__law_refused
  obtain ⟨d__law_views_refused, DC__law_views_refused, F__law_views_refused⟩ := defC_of e__law_views_refused k__law_views_refused
  obtain ⟨d__law_scores_right, DC__law_scores_right, F__law_scores_right⟩ := defC_of e__law_scores_right k__law_scores_right
  obtain ⟨d__law_part_right, DC__law_part_right, F__law_part_right⟩ := defC_of e__law_part_right k__law_part_right
  obtain ⟨d__law_all_right, _, _, _, _, _, _, _, F__law_all_right⟩ := fun_of e__law_all_right k__law_all_right
  obtain ⟨d_law, u1, u2, u3, u4, u5, u6, eu, F_law⟩ := fun_of e_law k_law
  obtain ⟨d_Policy_init, _, _, _, _, _, _, _, F_Policy_init⟩ := fun_of e_Policy_init k_Policy_init
  obtain ⟨d_Policy_eq, _, _, _, _, _, _, _, F_Policy_eq⟩ := fun_of e_Policy_eq k_Policy_eq
  obtain ⟨d_Policy_spot, _, _, _, _, _, _, _, F_Policy_spot⟩ := fun_of e_Policy_spot k_Policy_spot
  let T : TX K mg := {
    f_is_integer := f_is_integer, d_is_integer := d_is_integer, F_is_integer := F_is_integer, m_is_integer := PySem.W.mg_of X G g_is_integer,
    f_is_number := f_is_number, d_is_number := d_is_number, F_is_number := F_is_number, m_is_number := PySem.W.mg_of X G g_is_number,
    f_is_below := f_is_below, d_is_below := d_is_below, F_is_below := F_is_below, m_is_below := PySem.W.mg_of X G g_is_below,
    f_is_sequence := f_is_sequence, d_is_sequence := d_is_sequence, F_is_sequence := F_is_sequence, m_is_sequence := PySem.W.mg_of X G g_is_sequence,
    f_is_tuple_of := f_is_tuple_of, d_is_tuple_of := d_is_tuple_of, F_is_tuple_of := F_is_tuple_of, m_is_tuple_of := PySem.W.mg_of X G g_is_tuple_of,
    f_is_mode := f_is_mode, d_is_mode := d_is_mode, F_is_mode := F_is_mode, m_is_mode := PySem.W.mg_of X G g_is_mode,
    f_are_neighbours := f_are_neighbours, d_are_neighbours := d_are_neighbours, F_are_neighbours := F_are_neighbours, m_are_neighbours := PySem.W.mg_of X G g_are_neighbours,
    f_is_view := f_is_view, d_is_view := d_is_view, F_is_view := F_is_view, m_is_view := PySem.W.mg_of X G g_is_view,
    f_is_view_below := f_is_view_below, d_is_view_below := d_is_view_below, F_is_view_below := F_is_view_below, m_is_view_below := PySem.W.mg_of X G g_is_view_below,
    f_checked_views := f_checked_views, d_checked_views := d_checked_views, F_checked_views := F_checked_views, m_checked_views := PySem.W.mg_of X G g_checked_views,
    f_part := f_part, d_part := d_part, F_part := F_part, m_part := PySem.W.mg_of X G g_part,
    f_checked_scores := f_checked_scores, d_checked_scores := d_checked_scores, F_checked_scores := F_checked_scores, m_checked_scores := PySem.W.mg_of X G g_checked_scores,
    f_checked_integers := f_checked_integers, d_checked_integers := d_checked_integers, F_checked_integers := F_checked_integers, m_checked_integers := PySem.W.mg_of X G g_checked_integers,
    f__law_draw := f__law_draw, d__law_draw := d__law_draw, F__law_draw := F__law_draw, m__law_draw := PySem.W.mg_of X G g__law_draw,
    f__law_any := f__law_any, d__law_any := d__law_any, F__law_any := F__law_any, m__law_any := PySem.W.mg_of X G g__law_any,
    f__law_of := f__law_of, d__law_of := d__law_of, F__law_of := F__law_of, m__law_of := PySem.W.mg_of X G g__law_of,
    f__law_links := f__law_links, d__law_links := d__law_links, F__law_links := F__law_links, m__law_links := PySem.W.mg_of X G g__law_links,
    f__law_network := f__law_network, d__law_network := d__law_network, F__law_network := F__law_network, m__law_network := PySem.W.mg_of X G g__law_network,
    f__law_views := f__law_views, d__law_views := d__law_views, F__law_views := F__law_views, m__law_views := PySem.W.mg_of X G g__law_views,
    f__law_other := f__law_other, d__law_other := d__law_other, F__law_other := F__law_other, m__law_other := PySem.W.mg_of X G g__law_other,
    f__law_policy := f__law_policy, d__law_policy := d__law_policy, F__law_policy := F__law_policy, m__law_policy := PySem.W.mg_of X G g__law_policy,
    f__law_mixed := f__law_mixed, d__law_mixed := d__law_mixed, F__law_mixed := F__law_mixed, m__law_mixed := PySem.W.mg_of X G g__law_mixed,
    f__law_refused := f__law_refused, d__law_refused := d__law_refused, F__law_refused := F__law_refused, m__law_refused := PySem.W.mg_of X G g__law_refused,
    f__law_views_refused := f__law_views_refused, d__law_views_refused := d__law_views_refused, F__law_views_refused := F__law_views_refused, m__law_views_refused := PySem.W.mg_of X G g__law_views_refused,
    f__law_scores_right := f__law_scores_right, d__law_scores_right := d__law_scores_right, F__law_scores_right := F__law_scores_right, m__law_scores_right := PySem.W.mg_of X G g__law_scores_right,
    f__law_part_right := f__law_part_right, d__law_part_right := d__law_part_right, F__law_part_right := F__law_part_right, m__law_part_right := PySem.W.mg_of X G g__law_part_right,
    f__law_all_right := f__law_all_right, d__law_all_right := d__law_all_right, F__law_all_right := F__law_all_right, m__law_all_right := PySem.W.mg_of X G g__law_all_right,
    f_law := fa, d_law := d_law, F_law := F_law, m_law := PySem.W.mg_of X G g_law,
    n_int := PySem.W.mg_none_of X G z_int,
    n_bool := PySem.W.mg_none_of X G z_bool,
    n_abs := PySem.W.mg_none_of X G z_abs,
    n_len := PySem.W.mg_none_of X G z_len,
    n_min := PySem.W.mg_none_of X G z_min,
    n_max := PySem.W.mg_none_of X G z_max,
    n_sorted := PySem.W.mg_none_of X G z_sorted,
    n_tuple := PySem.W.mg_none_of X G z_tuple,
    n_list := PySem.W.mg_none_of X G z_list,
    n_range := PySem.W.mg_none_of X G z_range,
    n_repr := PySem.W.mg_none_of X G z_repr,
    n_isinstance := PySem.W.mg_none_of X G z_isinstance,
    n_enumerate := PySem.W.mg_none_of X G z_enumerate,
    n_all := PySem.W.mg_none_of X G z_all,
    t_MOST_MODES := t_MOST_MODES, m_MOST_MODES := PySem.W.mg_of X G g_MOST_MODES,
    t_MOST_NEIGHBOURS := t_MOST_NEIGHBOURS, m_MOST_NEIGHBOURS := PySem.W.mg_of X G g_MOST_NEIGHBOURS,
    c_InvalidPolicy := c_InvalidPolicy, i_InvalidPolicy := i_InvalidPolicy, E_InvalidPolicy := EE_InvalidPolicy,
    c_InvalidView := c_InvalidView, i_InvalidView := i_InvalidView, E_InvalidView := EE_InvalidView,
    c_InvalidScore := c_InvalidScore, i_InvalidScore := i_InvalidScore, E_InvalidScore := EE_InvalidScore,
    c_InvalidQuestion := c_InvalidQuestion, i_InvalidQuestion := i_InvalidQuestion, E_InvalidQuestion := EE_InvalidQuestion,
    c_Policy := c_Policy, m_Policy := PySem.W.mg_of X G g_Policy, C_Policy := KC_Policy.cls,
    A_Policy_modes := KC_Policy.no "modes" (by decide),
    A_Policy_views := KC_Policy.no "views" (by decide),
    A_Policy__spots := KC_Policy.no "_spots" (by decide),
    f_Policy_init := f_Policy_init, d_Policy_init := d_Policy_init, F_Policy_init := F_Policy_init,
    f_Policy_eq := f_Policy_eq, d_Policy_eq := d_Policy_eq, F_Policy_eq := F_Policy_eq,
    f_Policy_spot := f_Policy_spot, d_Policy_spot := d_Policy_spot, F_Policy_spot := F_Policy_spot,
    H_Policy_spot := ⟨j_Policy_spot, n__Policy_spot, k_Policy_spot⟩,
    M_Policy := KC_Policy.mks, I_Policy := KC_Policy.isi, O_Policy := KC_Policy.own }
  refine ⟨d_law, fun s v => by rw [eu]; exact .of_eq rfl, fun base _ _ TBh => ?_⟩
  have IR : IsR K c_InvalidPolicy c_InvalidView c_InvalidScore c_InvalidQuestion := ⟨OK_InvalidPolicy.xf, OK_InvalidView.xf, OK_InvalidScore.xf, OK_InvalidQuestion.xf, OK_InvalidPolicy.no, OK_InvalidView.no, OK_InvalidScore.no, OK_InvalidQuestion.no, OK_InvalidPolicy.te, x_vp_, OK_InvalidView.te, x_sp_, x_sv_, OK_InvalidScore.te, x_qp_, x_qv_, x_qs_, OK_InvalidQuestion.te⟩
  have BT : Tb base mg cM tM cN tN cR tR := ⟨TBh _ (.head _), TBh _ (.tail _ (.head _)), TBh _ (.tail _ (.tail _ (.head _))), neMN, neMR, neNR⟩
  exact G_law (P := l.prog) (w := w) (base := base) T BT IR (PySem.W.mg_of X G a_NetError) DC__law_views_refused DC__law_scores_right DC__law_part_right KC_Policy.nf KC_Policy.kt nfI_ ktI_
end K03

open PySem PySem.W PyProof.Rows
set_option maxRecDepth 100000 in
set_option maxHeartbeats 0 in
theorem PySem.Challenge.cw_handalong_k03_policies_and_their_scores_holds : PySem.Challenge.rw_handalong_k03_policies_and_their_scores.Holds := by
  w_on; o_law; k_head; (case hw => w_witness2)
  k_fill
  refine KX.walk_ofS (l := PySem.Challenge.rw_handalong_k03_policies_and_their_scores) (n := 63) (k := 17) (x := "script") (CX := L2.CX0) (ts := [(?cM, 283), (?cN, 290), (?cR, 295)]) (sp := K03.spLaw 283 290 295)
    rfl (by decide) rfl ⟨rfl, by decide, by decide⟩ (fun w h Y => km_in_of Y) (fun w h Y => K03.all_tabs (km_tabs_of Y _ (.tail _ (.tail _ (.head _)))) (km_tabs_of Y _ (.tail _ (.head _))) (km_tabs_of Y _ (.head _))) ?hcd ?nt ?F (fun _ H a ns hl ht hS => ⟨a, ns, rfl, hS, ht _ (.head _), ht _ (.tail _ (.head _)), ht _ (.tail _ (.tail _ (.head _))), fun _ => rfl⟩) fun _ _ _ _ z => z
  case F =>
    intro w mg fa h Y G hmg
    refine' K03.all_mk Y G hmg ?a_InvalidPolicy ?i__InvalidPolicy ?ok_InvalidPolicy ?x_InvalidPolicy ?y_InvalidPolicy ?a_InvalidView ?i__InvalidView ?ok_InvalidView ?x_InvalidView ?y_InvalidView ?a_InvalidScore ?i__InvalidScore ?ok_InvalidScore ?x_InvalidScore ?y_InvalidScore ?a_InvalidQuestion ?i__InvalidQuestion ?ok_InvalidQuestion ?x_InvalidQuestion ?y_InvalidQuestion ?g_MOST_MODES ?g_MOST_NEIGHBOURS ?g_is_integer ?e_is_integer ?k_is_integer ?g_is_number ?e_is_number ?k_is_number ?g_is_below ?e_is_below ?k_is_below ?g_is_sequence ?e_is_sequence ?k_is_sequence ?g_is_tuple_of ?e_is_tuple_of ?k_is_tuple_of ?g_is_mode ?e_is_mode ?k_is_mode ?g_are_neighbours ?e_are_neighbours ?k_are_neighbours ?g_is_view ?e_is_view ?k_is_view ?g_is_view_below ?e_is_view_below ?k_is_view_below ?g_checked_views ?e_checked_views ?k_checked_views ?g_part ?e_part ?k_part ?g_checked_scores ?e_checked_scores ?k_checked_scores ?g_checked_integers ?e_checked_integers ?k_checked_integers ?g__law_draw ?e__law_draw ?k__law_draw ?g__law_any ?e__law_any ?k__law_any ?g__law_of ?e__law_of ?k__law_of ?g__law_links ?e__law_links ?k__law_links ?g__law_network ?e__law_network ?k__law_network ?g__law_views ?e__law_views ?k__law_views ?g__law_other ?e__law_other ?k__law_other ?g__law_policy ?e__law_policy ?k__law_policy ?g__law_mixed ?e__law_mixed ?k__law_mixed ?g__law_refused ?e__law_refused ?k__law_refused ?g__law_views_refused ?e__law_views_refused ?k__law_views_refused ?g__law_scores_right ?e__law_scores_right ?k__law_scores_right ?g__law_part_right ?e__law_part_right ?k__law_part_right ?g__law_all_right ?e__law_all_right ?k__law_all_right ?g_law ?e_law ?k_law ?g_Policy ?j_Policy_init ?j_Policy_eq ?j_Policy_spot ?n__Policy_spot ?okc_Policy ?e_Policy_init ?k_Policy_init ?e_Policy_eq ?k_Policy_eq ?e_Policy_spot ?k_Policy_spot ?a_NetError ?x_vp_ ?x_sp_ ?x_sv_ ?x_qp_ ?x_qv_ ?x_qs_ ?nfI_ ?ktI_ ?neMN ?neMR ?neNR ?z_int ?z_bool ?z_abs ?z_len ?z_min ?z_max ?z_sorted ?z_tuple ?z_list ?z_range ?z_repr ?z_isinstance ?z_enumerate ?z_all
    (case a_InvalidPolicy => k_is)
    (case i__InvalidPolicy => k_is)
    (case ok_InvalidPolicy => kernel_rfl)
    (case x_InvalidPolicy => (refine' ⟨_, _, _, _, _, _, _, _, _, _, _, _, _, _, _, ?h1, ?h2⟩; (case h1 => rfl); (case h2 => decide +kernel)))
    (case y_InvalidPolicy => (refine' ⟨_, _, _, _, _, _, _, _, _, _, _, _, _, _, ?h1, ?h2⟩; (case h1 => rfl); (case h2 => k_is)))
    (case a_InvalidView => k_is)
    (case i__InvalidView => k_is)
    (case ok_InvalidView => kernel_rfl)
    (case x_InvalidView => (refine' ⟨_, _, _, _, _, _, _, _, _, _, _, _, _, _, _, ?h1, ?h2⟩; (case h1 => rfl); (case h2 => decide +kernel)))
    (case y_InvalidView => (refine' ⟨_, _, _, _, _, _, _, _, _, _, _, _, _, _, ?h1, ?h2⟩; (case h1 => rfl); (case h2 => k_is)))
    (case a_InvalidScore => k_is)
    (case i__InvalidScore => k_is)
    (case ok_InvalidScore => kernel_rfl)
    (case x_InvalidScore => (refine' ⟨_, _, _, _, _, _, _, _, _, _, _, _, _, _, _, ?h1, ?h2⟩; (case h1 => rfl); (case h2 => decide +kernel)))
    (case y_InvalidScore => (refine' ⟨_, _, _, _, _, _, _, _, _, _, _, _, _, _, ?h1, ?h2⟩; (case h1 => rfl); (case h2 => k_is)))
    (case a_InvalidQuestion => k_is)
    (case i__InvalidQuestion => k_is)
    (case ok_InvalidQuestion => kernel_rfl)
    (case x_InvalidQuestion => (refine' ⟨_, _, _, _, _, _, _, _, _, _, _, _, _, _, _, ?h1, ?h2⟩; (case h1 => rfl); (case h2 => decide +kernel)))
    (case y_InvalidQuestion => (refine' ⟨_, _, _, _, _, _, _, _, _, _, _, _, _, _, ?h1, ?h2⟩; (case h1 => rfl); (case h2 => k_is)))
    (case g_MOST_MODES => k_is)
    (case g_MOST_NEIGHBOURS => k_is)
    (case g_is_integer => k_is)
    (case e_is_integer => (refine' ⟨_, _, _, _, _, _, _, _, _, ?h1, ?h2⟩; (case h1 => rfl); (case h2 => k_is)))
    (case k_is_integer => k_is)
    (case g_is_number => k_is)
    (case e_is_number => (refine' ⟨_, _, _, _, _, _, _, _, _, ?h1, ?h2⟩; (case h1 => rfl); (case h2 => k_is)))
    (case k_is_number => k_is)
    (case g_is_below => k_is)
    (case e_is_below => (refine' ⟨_, _, _, _, _, _, _, _, _, ?h1, ?h2⟩; (case h1 => rfl); (case h2 => k_is)))
    (case k_is_below => k_is)
    (case g_is_sequence => k_is)
    (case e_is_sequence => (refine' ⟨_, _, _, _, _, _, _, _, _, ?h1, ?h2⟩; (case h1 => rfl); (case h2 => k_is)))
    (case k_is_sequence => k_is)
    (case g_is_tuple_of => k_is)
    (case e_is_tuple_of => (refine' ⟨_, _, _, _, _, _, _, _, _, ?h1, ?h2⟩; (case h1 => rfl); (case h2 => k_is)))
    (case k_is_tuple_of => k_is)
    (case g_is_mode => k_is)
    (case e_is_mode => (refine' ⟨_, _, _, _, _, _, _, _, _, ?h1, ?h2⟩; (case h1 => rfl); (case h2 => k_is)))
    (case k_is_mode => k_is)
    (case g_are_neighbours => k_is)
    (case e_are_neighbours => (refine' ⟨_, _, _, _, _, _, _, _, _, ?h1, ?h2⟩; (case h1 => rfl); (case h2 => k_is)))
    (case k_are_neighbours => k_is)
    (case g_is_view => k_is)
    (case e_is_view => (refine' ⟨_, _, _, _, _, _, _, _, _, ?h1, ?h2⟩; (case h1 => rfl); (case h2 => k_is)))
    (case k_is_view => k_is)
    (case g_is_view_below => k_is)
    (case e_is_view_below => (refine' ⟨_, _, _, _, _, _, _, _, _, ?h1, ?h2⟩; (case h1 => rfl); (case h2 => k_is)))
    (case k_is_view_below => k_is)
    (case g_checked_views => k_is)
    (case e_checked_views => (refine' ⟨_, _, _, _, _, _, _, _, _, ?h1, ?h2⟩; (case h1 => rfl); (case h2 => k_is)))
    (case k_checked_views => k_is)
    (case g_part => k_is)
    (case e_part => (refine' ⟨_, _, _, _, _, _, _, _, _, ?h1, ?h2⟩; (case h1 => rfl); (case h2 => k_is)))
    (case k_part => k_is)
    (case g_checked_scores => k_is)
    (case e_checked_scores => (refine' ⟨_, _, _, _, _, _, _, _, _, ?h1, ?h2⟩; (case h1 => rfl); (case h2 => k_is)))
    (case k_checked_scores => k_is)
    (case g_checked_integers => k_is)
    (case e_checked_integers => (refine' ⟨_, _, _, _, _, _, _, _, _, ?h1, ?h2⟩; (case h1 => rfl); (case h2 => k_is)))
    (case k_checked_integers => k_is)
    (case g__law_draw => k_is)
    (case e__law_draw => (refine' ⟨_, _, _, _, _, _, _, _, _, ?h1, ?h2⟩; (case h1 => rfl); (case h2 => k_is)))
    (case k__law_draw => k_is)
    (case g__law_any => k_is)
    (case e__law_any => (refine' ⟨_, _, _, _, _, _, _, _, _, ?h1, ?h2⟩; (case h1 => rfl); (case h2 => k_is)))
    (case k__law_any => k_is)
    (case g__law_of => k_is)
    (case e__law_of => (refine' ⟨_, _, _, _, _, _, _, _, _, ?h1, ?h2⟩; (case h1 => rfl); (case h2 => k_is)))
    (case k__law_of => k_is)
    (case g__law_links => k_is)
    (case e__law_links => (refine' ⟨_, _, _, _, _, _, _, _, _, ?h1, ?h2⟩; (case h1 => rfl); (case h2 => k_is)))
    (case k__law_links => k_is)
    (case g__law_network => k_is)
    (case e__law_network => (refine' ⟨_, _, _, _, _, _, _, _, _, ?h1, ?h2⟩; (case h1 => rfl); (case h2 => k_is)))
    (case k__law_network => k_is)
    (case g__law_views => k_is)
    (case e__law_views => (refine' ⟨_, _, _, _, _, _, _, _, _, ?h1, ?h2⟩; (case h1 => rfl); (case h2 => k_is)))
    (case k__law_views => k_is)
    (case g__law_other => k_is)
    (case e__law_other => (refine' ⟨_, _, _, _, _, _, _, _, _, ?h1, ?h2⟩; (case h1 => rfl); (case h2 => k_is)))
    (case k__law_other => k_is)
    (case g__law_policy => k_is)
    (case e__law_policy => (refine' ⟨_, _, _, _, _, _, _, _, _, ?h1, ?h2⟩; (case h1 => rfl); (case h2 => k_is)))
    (case k__law_policy => k_is)
    (case g__law_mixed => k_is)
    (case e__law_mixed => (refine' ⟨_, _, _, _, _, _, _, _, _, ?h1, ?h2⟩; (case h1 => rfl); (case h2 => k_is)))
    (case k__law_mixed => k_is)
    (case g__law_refused => k_is)
    (case e__law_refused => (refine' ⟨_, _, _, _, _, _, _, _, _, ?h1, ?h2⟩; (case h1 => rfl); (case h2 => k_is)))
    (case k__law_refused => k_is)
    (case g__law_views_refused => k_is)
    (case e__law_views_refused => (refine' ⟨_, _, _, _, _, _, _, _, ?h1, ?h2⟩; (case h1 => rfl); (case h2 => k_is)))
    (case k__law_views_refused => k_is)
    (case g__law_scores_right => k_is)
    (case e__law_scores_right => (refine' ⟨_, _, _, _, _, _, _, _, ?h1, ?h2⟩; (case h1 => rfl); (case h2 => k_is)))
    (case k__law_scores_right => k_is)
    (case g__law_part_right => k_is)
    (case e__law_part_right => (refine' ⟨_, _, _, _, _, _, _, _, ?h1, ?h2⟩; (case h1 => rfl); (case h2 => k_is)))
    (case k__law_part_right => k_is)
    (case g__law_all_right => k_is)
    (case e__law_all_right => (refine' ⟨_, _, _, _, _, _, _, _, _, ?h1, ?h2⟩; (case h1 => rfl); (case h2 => k_is)))
    (case k__law_all_right => k_is)
    (case g_law => k_is)
    (case e_law => (refine' ⟨_, _, _, _, _, _, _, _, _, ?h1, ?h2⟩; (case h1 => rfl); (case h2 => k_is)))
    (case k_law => k_is)
    (case g_Policy => k_is)
    (case j_Policy_init => k_is)
    (case j_Policy_eq => k_is)
    (case j_Policy_spot => k_is)
    (case n__Policy_spot => k_is)
    (case okc_Policy => kernel_rfl)
    (case e_Policy_init => (refine' ⟨_, _, _, _, _, _, _, _, _, ?h1, ?h2⟩; (case h1 => rfl); (case h2 => k_is)))
    (case k_Policy_init => k_is)
    (case e_Policy_eq => (refine' ⟨_, _, _, _, _, _, _, _, _, ?h1, ?h2⟩; (case h1 => rfl); (case h2 => k_is)))
    (case k_Policy_eq => k_is)
    (case e_Policy_spot => (refine' ⟨_, _, _, _, _, _, _, _, _, ?h1, ?h2⟩; (case h1 => rfl); (case h2 => k_is)))
    (case k_Policy_spot => k_is)
    (case a_NetError => k_is)
    (case x_vp_ => kernel_rfl)
    (case x_sp_ => kernel_rfl)
    (case x_sv_ => kernel_rfl)
    (case x_qp_ => kernel_rfl)
    (case x_qv_ => kernel_rfl)
    (case x_qs_ => kernel_rfl)
    (case nfI_ => kernel_rfl)
    (case ktI_ => kernel_rfl)
    (case neMN => decide)
    (case neMR => decide)
    (case neNR => decide)
    (case z_int => k_is)
    (case z_bool => k_is)
    (case z_abs => k_is)
    (case z_len => k_is)
    (case z_min => k_is)
    (case z_max => k_is)
    (case z_sorted => k_is)
    (case z_tuple => k_is)
    (case z_list => k_is)
    (case z_range => k_is)
    (case z_repr => k_is)
    (case z_isinstance => k_is)
    (case z_enumerate => k_is)
    (case z_all => k_is)
  case hcd => intro w; refine K03.all_tabs ?_ ?_ ?_ <;> kernel_rfl
  case nt => intro w; refine K03.all_tabs ?_ ?_ ?_ <;> kernel_rfl
