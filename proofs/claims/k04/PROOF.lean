import PyProof.Rows.All
import Wide.All
import OpenK.AllK
import Wide.FinOn
import HandS.ForExc
import HandS.HotCalls
import HandS.ExcField
import HandS.ExcIs
import HandS.RaiseMore
import HandS.Comp
import PyProof.ReprRoads
import KE.KExcIs
import HandS.IsInst
import HandS.Defaults
import HandS.Gcd
import HandS.Wide
import HandS.Style
import HandS.Flow
import HandS.Lambda
import HandS.TupLe
import HandS.TupAny
import HandS.SetFor
import HandS.Conv
import HandS.SlotsOwn
import PyProof.InstNe
import KE.GoesEnum
import HandS.Iter
import HandS.Walk
import HandS.Deep
import HandS.Sort
import HandS.SortRule
import HandS.MakeKw
import HandS.MakeKwOnly
import HandS.TryOnly
import PySem.Challenge.RW_handalong_k04_networks_kept_and_refused
import KE.KExcTry
import KE.KExcStr
import KE.KNestM
set_option Elab.async false
set_option linter.all false
set_option maxRecDepth 100000
set_option maxHeartbeats 4000000
namespace KX
open PySem PySem.Spec PyProof.Rows L2
/-! repr of data -/
def rRepr (K : PySem.W.Frag) : List V → Hp → VK → Prop := fun xs H Q =>
  ∃ x d, xs = [x] ∧ Dp K H x d ∧ d.showable = true ∧ d.hasDict = false ∧ d.depth ≤ 64 ∧
    d.shown.length ≤ sizeLine ∧ Q (.str d.shown) H
theorem cr_repr {X : Cx} (hg : X.A.guards = some []) (hu : X.A.units + 66 < cLine) :
    CallR X (.builtin "repr") (rRepr X.K) := by
  intro pins s σ H xs us Q I r h
  obtain ⟨x, d, rfl, hd, hs, hn, h64, hz, q⟩ := h
  cases r with
  | cons rx rn =>
    cases rn
    rename_i u
    obtain ⟨as, rd⟩ := Dp.reads I d x u hd rx
    have hsm : d.hasDict = true → sysModules ∉ as := fun z => by rw [hn] at z; cases z
    have out : ∀ (h' : Heap) (tk : Nat) (t : Tok), (∀ b o, s.heap.get? b = some o → h'.get? b = some o) →
        EP X pins σ Q (.str d.shown t) { s with heap := h', toks := tk } := fun h' tk t k =>
      ⟨.str d.shown, H, I.kept k, ⟨t, rfl⟩, q⟩
    cases rd with
    | none => exact P.repr_of_none (out s.heap _ _ fun _ _ e => e)
    | bool b => exact P.repr_of_bool (by simpa only [PyData.shown] using out s.heap (s.toks + 1) s.toks fun _ _ e => e)
    | int i t =>
      exact P.repr_of_int (by simpa [PyData.showable] using hs)
        (by simpa only [PyData.shown] using out s.heap (s.toks + 1) s.toks fun _ _ e => e)
    | str z t =>
      exact P.repr_of_str (by simpa only [PyData.shown] using out s.heap (s.toks + 1) s.toks fun _ _ e => e)
        (by simpa only [PyData.shown] using hz)
    | list h1 h2 h3 h4 =>
      exact repr_of_reads' (.list h1 h2 h3 h4) hs hsm hg (by omega) (fun _ _ e => e)
        (fun h' u tk k => out h' tk u k) hz
    | tuple h1 h2 h3 h4 =>
      exact repr_of_reads' (.tuple h1 h2 h3 h4) hs hsm hg (by omega) (fun _ _ e => e)
        (fun h' u tk k => out h' tk u k) hz
    | dict h1 h2 h3 h4 h5 => cases hn
end KX

namespace PySem
namespace ErrX
open PySem.W PySem.Calls PyProof.Rows PySem.HandSPX
/-! ### the text of __init__ -/
def iA (p1 p2 : Pos) : Arguments := { posonlyargs := [], args := [{ arg := "self", annotation := none, pos := p1 }, { arg := "at", annotation := none, pos := p2 }], vararg := none, kwonlyargs := [], kw_defaults := [], kwarg := none, defaults := [] }
def iB (q1 q2 q3 q4 : Pos) : List Stmt := [.Assign [.Attribute (.Name "self" q1) "at" q2] (.Name "at" q3) q4]
def iS : Scope := { kind := .function, names := [(PySem.Str.ofString "self", .local), (PySem.Str.ofString "at", .local)], isGenerator := false, isCoroutine := false, more := [] }
/-- what the written part says of Low, at C, and of its __init__, at fI -/
structure ErrTxt (K : Frag) (mg : Str → Option Value) (en qn : Str) (C fI : Addr) : Prop where
  gC : mg en = some (.ref C)
  cls : ∃ nm q N bs bm sn sub ab col dd k0 k1 k2 k3 k5, K.lookup C = some (excClassObj nm q C N bs bm true sn sub ab col dd k0 k1 k2 k3 k5 "ValueError.__new__") ∧ refsVE bm = true
  sa : findIn K (.ref C) "__setattr__" = some (some (.builtin "object.__setattr__"))
  ga : findIn K (.ref C) "__getattribute__" = some (some (.builtin "BaseException.__getattribute__"))
  gg : findIn K (.ref C) "__getattr__" = some none
  noN : findIn K (.ref C) "at" = some none
  iC : findIn K (.ref C) "__init__" = some (some (.ref fI))
  tC : typeIn K (.ref fI) = some (.type "function")
  kC : keepIn K (.ref C) = true
  exC : subIn K (.ref C) (.type "BaseException") = some true
  tyC : typeIn K (.ref C) = some (.type "type")
  hdC : hasDictIn K C = true
  te : exmOne K (.ref C) (.ref C) = some true
  fn : ∃ (oc : Value) (od : Option Addr) (doc pm : Value) (an : Option Addr) (cdv ct : Value) (osl : Array (Option Value)) (p1 p2 q1 q2 q3 q4 : Pos),
    K.lookup fI = some ⟨oc, od, .func (fnOf "__init__" qn (iA p1 p2) (iB q1 q2 q3 q4) iS .none .none doc pm an cdv ct), osl⟩ ∧ codeIn K cdv qn = true
theorem one_size (v : Value) : [v].length ≤ sizeLine := by
  rw [sizeLine_eq]
  exact (by decide : 1 ≤ 16777216)
theorem kept_but {K : Frag} {h h' : Heap} {x : Addr} (X : K.In h) (hx : K.lookup x = none) (k : ∀ b o, b ≠ x → h.get? b = some o → h'.get? b = some o) : K.In h' := fun a o e =>
  k a o (fun z => by rw [z, hx] at e; cases e) (X a o e)
theorem ldC {M : Model} {s : Shared} {name : Str} {scope : Scope} {L a : Addr} {cd : Value} {m : Str → Option Value} {x : Str} {pos : Pos} {v : Value} {Q : Value → Shared → Prop} {A : Around} {E : Value → Shared → Prop} (hn : s.heap.Ns L m) (hv : m x = some v) (h : Q v s)
    (hk : scope.kind = .function := by rfl) (hl : (envOfC name scope L a cd).kindOf x = some .local := by rfl) (hd : (x == ("__debug__" : Str)) = false := by decide) :
    wpAny M A (eval (.Name x pos) (envOfC name scope L a cd)) Q E s := wpAny_Name (wpAny_loadName_local hk hl hn hv h) hd
/-- what __init__ leaves of a fresh exception at x -/
structure InitEnd (h h' : Heap) (x C dx t1 : Addr) (v : Value) : Prop where
  keep : ∀ b o, b ≠ x → h.get? b = some o → h'.get? b = some o
  obj : h'.get? x = some { cls := .ref C, dict := some dx, data := .fields #[.ref t1, .none, .none, .none, .bool false, .none] }
  dbig : h.objs.size ≤ dx
  dne : dx ≠ x
  ns : h'.Ns1 dx (fun y => if y = "at" then some v else none)
/-- a made Low -/
structure OwnMade (h h' : Heap) (e C d : Addr) (v : Value) : Prop where
  keep : ∀ b o, h.get? b = some o → h'.get? b = some o
  new : h.objs.size ≤ e
  obj : ∃ oe vs, h'.get? e = some oe ∧ oe.cls = .ref C ∧ oe.dict = some d ∧ oe.data = .fields vs ∧ vs[1]? = some .none ∧ vs[2]? = some .none
  dbig : h.objs.size ≤ d
  dne : d ≠ e
  ns : h'.Ns1 d (fun y => if y = "at" then some v else none)
section
variable {prog : Program} {w : World} {A : Around} {E : Value → Shared → Prop} {R : Result → Shared → Prop} {s : Shared} {K : Frag} {mg : Str → Option Value} {C fI : Addr} {en qn : Str}
theorem err_init (T : ErrTxt K mg en qn C fI) {x t0 : Addr} {v : Value} (X : K.In s.heap) (hlim : s.heap.NoLimit) (hx : s.heap.get? x = some (excO C t0)) (hnx : K.lookup x = none) (hroom : A.depth < recursionLimit)
    (hq : ∀ h' tk dx, InitEnd s.heap h' x C dx t0 v → R (.ok (.ret .none)) { s with heap := h', toks := tk }) :
    codeAny (model prog w) A (.call (.ref fI) ⟨[.ref x, v], []⟩) R s := by
  obtain ⟨oc, od, doc, pm, an, cdv, ct, osl, p1, p2, q1, q2, q3, q4, ho, hcd⟩ := T.fn
  obtain ⟨nm, q, N, bs, bm, sn, sub, ab, col, dd, k0, k1, k2, k3, k5, hC, hbm⟩ := T.cls
  have hcl : clsIn K C = some { name := nm, bases := bs, mro := .ref C :: bm, ns := N, qualname := q, hasDict := true, slotNames := sn, subclasses := sub, abstract := ab, collection := col, hasDel := false } := by unfold clsIn; rw [hC] <;> rfl
  refine Att.call_fn (binds := [("self", .ref x), ("at", v)]) X hlim ho hcd hroom (BindsTo.of_eq (by first | rfl | with_unfolding_all rfl)) (by first | rfl | decide | with_unfolding_all rfl) (fun s₁ IC => ?_) rfl rfl rfl
  obtain ⟨h₁, tk₁, rfl⟩ := IC.toInCall.same
  have k : ∀ b o, s.heap.get? b = some o → h₁.get? b = some o := IC.toInCall.keep
  have hn := IC.toInCall.ns
  have hxL : s.heap.objs.size ≠ x := Nat.ne_of_gt (Heap.lt_size hx)
  have X₁ : K.In h₁ := X.keeps k
  have hx₁ := k _ _ hx
  -- self.by = by
  show wpAny _ _ (execs _ _) _ _ _
  refine wpAny_execs_cons (plainObj_wpAny_Assign_Attribute ?_)
  refine ldC (v := v) hn (by first | rfl | with_unfolding_all rfl | kernel_rfl) (ldC (v := .ref x) hn (by first | rfl | with_unfolding_all rfl | kernel_rfl) ?_)
  refine set_plain X₁ (ox := excO C t0) (od := none) ⟨hx₁, rfl, rfl, trivial⟩ T.sa ?_
  refine exc_osa X₁ hx₁ hcl (show refsVE (.ref C :: bm) = true from hbm) rfl T.noN (fun h₃ tk₃ dx k₃ dn dne hx₃ hn₃ => ?_)
  show wpAny _ _ (execs _ _) _ _ _
  have z : s.heap.objs.size < h₁.objs.size := hn.lt
  exact wpAny_execs_nil (hq h₃ tk₃ dx ⟨fun b o hb e => k₃ b o hb (k b o e), hx₃, Nat.le_of_lt (Nat.lt_of_lt_of_le z dn), dne, hn₃⟩)
theorem err_made (T : ErrTxt K mg en qn C fI) {v : Value} (X : K.In s.heap) (hlim : s.heap.NoLimit) (hroom : A.depth + 1 < recursionLimit)
    (hq : ∀ h' tk e d, OwnMade s.heap h' e C d v → R (.ok (.ret (.ref e))) { s with heap := h', toks := tk }) :
    codeAny (model prog w) A (.call (.ref C) ⟨[v], []⟩) R s := by
  obtain ⟨nm, q, N, bs, bm, sn, sub, ab, col, dd, k0, k1, k2, k3, k5, hC, hbm⟩ := T.cls
  obtain ⟨hp, g, dr, tk, os⟩ := s
  have k : ∀ b o, hp.get? b = some o → ((hp.push (kdv_tup [v])).push (excO C hp.objs.size)).get? b = some o := fun b o e => Heap.get?_push_of_some _ (Heap.get?_push_of_some _ e)
  have hget : ((hp.push (kdv_tup [v])).push (excO C hp.objs.size)).get? (hp.objs.size + 1) = some (excO C hp.objs.size) := by heap_get
  have hnx : K.lookup (hp.objs.size + 1) = none := by
    cases e : K.lookup (hp.objs.size + 1) with
    | none => rfl
    | some o =>
      have z : hp.get? (hp.objs.size + 1) = some o := X _ _ e
      exact absurd (Nat.lt_of_succ_lt (Heap.lt_size z)) (Nat.lt_irrefl _)
  refine call_own F.excBase_ValueError (fun X => refsVE_contains X bm hbm) (X _ _ hC) (looks_findIn X T.iC) (fun self => bind_fn X self T.tC) (one_size v) ?_
  refine err_init (s := ⟨(hp.push (kdv_tup [v])).push (excO C hp.objs.size), g, dr, tk, os⟩) T (X.keeps k) (hlim.keeps k) hget hnx ?_ fun h' tk' dx ⟨k', hx, dn, dne, hns⟩ => ?_
  · show A.depth + 1 < recursionLimit
    exact hroom
  · have old : ∀ b o, hp.get? b = some o → h'.get? b = some o := fun b o e => k' b o (Nat.ne_of_lt (Nat.lt_succ_of_lt (Heap.lt_size e))) (k b o e)
    have z : hp.objs.size + 1 + 1 ≤ dx := by
      first
        | (simpa only [Heap.size_push] using dn)
        | exact dn
        | (have q := dn; rw [Heap.size_push, Heap.size_push] at q; exact q)
    exact ⟨rfl, hq h' tk' (hp.objs.size + 1) dx ⟨old, Nat.le_succ _, ⟨_, _, hx, rfl, rfl, rfl, rfl, rfl⟩, Nat.le_trans (Nat.le_trans (Nat.le_succ _) (Nat.le_succ _)) z, dne, hns⟩⟩
end
end ErrX
end PySem
namespace KX
open PySem PySem.Spec PyProof.Rows L2
theorem relO_err {v : V} {v' : Value} (r : RelV v v') (f : Str) : RelO (List.lookup f [(("at" : Str), v)]) (if f = "at" then some v' else none) := by
  by_cases hw : f = "at"
  · subst hw
    rw [if_pos rfl]
    have q : List.lookup ("at" : Str) [(("at" : Str), v)] = some v := by simp [List.lookup]
    rw [q]
    exact r
  · rw [if_neg hw]
    have qw : (f == ("at" : Str)) = false := by simpa using hw
    have q2 : List.lookup f [(("at" : Str), v)] = none := by simp [List.lookup, qw]
    rw [q2]
    trivial
section
variable {X : Cx} {C fI : Addr} {en qn : Str}
/-- Low(e) -/
def tMkErr (C : Addr) (ta : TA) : L2.St → Hp → XK → Prop := fun σ H Q => ta σ H fun vs H1 => ∃ v, vs = [v] ∧ ∀ d, H1 d = none → Q (.ref C) (some d) (upd H1 d (.xd [(("at" : Str), v)]))
theorem pmk_err {a : Expr} {ta : TA} {p pos : Pos} {k : Nat} (T : PySem.ErrX.ErrTxt X.K X.mg en qn C fI) (hr : Room k X.A) (ha : PA X [a] ta) (hg : Gl X en := by rfl) (hdb : (en == ("__debug__" : Str)) = false := by decide)
    (he : starEach (a :: []) X.env = (false, eval a X.env) :: starEach [] X.env := by rfl) (hpl : (backTo pos (starEach [] X.env)).any (·.1) = false := by rfl) :
    L2N.PMk X (.Call (.Name en p) [a] [] pos) (tMkErr C ta) := by
  intro pins s σ H Q I h
  refine wpAny_Call_Name_kw (ld_glob I hg T.gC ?_ hdb)
  refine PySem.W.callWith_K (h₀ := X.base) I.ok.mod.kin T.kC (thn (ha.run pos pins s σ H _ I h) fun us s1 hh => ?_) he hpl
  obtain ⟨vs, H1, I1, r1, v, ev, q1⟩ := hh
  subst ev
  refine ⟨I1.kIn, ?_⟩
  cases r1 with
  | cons rv rn =>
    rename_i v' us'
    cases rn
    show wpAny _ _ (call (.ref C) [v']) _ _ _
    have hlim := I1.nolimit
    obtain ⟨hp, g, dr, tk, os⟩ := s1
    refine wpAny_call (PySem.ErrX.err_made T I1.kIn hlim (by have := hr.dp; omega) fun h' tk' e d M => ?_)
    show L2N.MkP X pins σ Q (.ref e) ⟨h', g, dr, tk', os⟩
    obtain ⟨oe, fv, hoe, hc, hd, hdat, h1, h2⟩ := M.obj
    have hns := M.ns
    obtain ⟨G', g1, g2⟩ := restrict h' fun b => decide (b ≠ e)
    have gk : ∀ b, b ≠ e → G'.get? b = h'.get? b := fun b hb => g1 b (decide_eq_true hb)
    have ge : G'.get? e = none := g2 e (by simp)
    have old : ∀ b o, hp.get? b = some o → G'.get? b = some o := fun b o q => (gk b (Nat.ne_of_lt (Nat.lt_of_lt_of_le (Heap.lt_size q) M.new))).trans (M.keep b o q)
    have ob : ObjOk X.prog X.w (upd H1 d (.xd [(("at" : Str), v)])) G' d (.xd [(("at" : Str), v)]) :=
      ⟨_, hns.at (fun o q => (gk d M.dne).trans q), fun f => relO_err rv f⟩
    have J : Inv X pins σ (upd H1 d (.xd [(("at" : Str), v)])) ⟨G', g, dr, tk', os⟩ := I1.laid (t' := tk') old M.dbig ob
    refine ⟨e, oe, fv, ⟨G', g, dr, tk', os⟩, _, .ref C, some d, rfl, J, fun b o q => ?_, ge, hoe, ⟨hc, hd, fun vs' z => by rw [hdat] at z; cases z; exact h2⟩, hdat, h1, ?_, rfl, I1.bare, raises_own T.exC T.tyC, q1 d (I1.hok.fresh M.dbig)⟩
    · by_cases hb : b = e
      · have q' : G'.get? b = some o := q
        rw [hb, ge] at q'; cases q'
      · exact (gk b hb).symm.trans q
    · rw [upd_ne (Ne.symm M.dne)]
      exact I1.hok.fresh M.new
/-- raise Low(e) -/
def tRaiseErr (C : Addr) (W : WX) (ta : TA) : TS := fun _ σ H => tMkErr C ta σ H fun cls d H' => W cls d σ H'
theorem ps_raiseErr {a : Expr} {ta : TA} {W : WX} {p pos pos2 : Pos} {k : Nat} (hc : X.calm = true) (T : PySem.ErrX.ErrTxt X.K X.mg en qn C fI) (hr : Room k X.A) (tk : L2N.Takes X W) (ha : PA X [a] ta) (hg : Gl X en := by rfl) (hdb : (en == ("__debug__" : Str)) = false := by decide)
    (he : starEach (a :: []) X.env = (false, eval a X.env) :: starEach [] X.env := by rfl) (hpl : (backTo pos (starEach [] X.env)).any (·.1) = false := by rfl) :
    PS X (.Raise (some (.Call (.Name en p) [a] [] pos)) none pos2) (tRaiseErr C W ta) := L2N.ps_raise hc tk (pmk_err T hr ha hg hdb he hpl)
end
end KX

namespace PySem
namespace ErrX
open PySem.W PySem.Calls PyProof.Rows PySem.HandSPX
def iA0 (p1 : Pos) : Arguments :=
  { posonlyargs := [], args := [{ arg := "self", annotation := none, pos := p1 }], vararg := none,
    kwonlyargs := [], kw_defaults := [], kwarg := none, defaults := [] }
def iS0 : Scope :=
  { kind := .function, names := [(PySem.Str.ofString "self", .local)], isGenerator := false, isCoroutine := false, more := [] }
/-- an error class whose __init__(self) does nothing -/
structure ErrTxt0 (K : Frag) (mg : Str → Option Value) (en qn : Str) (C fI : Addr) : Prop where
  gC : mg en = some (.ref C)
  cls : ∃ nm q N bs bm sn sub ab col dd k0 k1 k2 k3 k5,
    K.lookup C = some (excClassObj nm q C N bs bm true sn sub ab col dd k0 k1 k2 k3 k5 "ValueError.__new__") ∧ refsVE bm = true
  iC : findIn K (.ref C) "__init__" = some (some (.ref fI))
  tC : typeIn K (.ref fI) = some (.type "function")
  kC : keepIn K (.ref C) = true
  exC : subIn K (.ref C) (.type "BaseException") = some true
  tyC : typeIn K (.ref C) = some (.type "type")
  fn : ∃ (oc : Value) (od : Option Addr) (doc pm : Value) (an : Option Addr) (cdv ct : Value) (osl : Array (Option Value)) (p1 q1 : Pos),
    K.lookup fI = some ⟨oc, od, .func (fnOf "__init__" qn (iA0 p1) [.Pass q1] iS0 .none .none doc pm an cdv ct), osl⟩ ∧
      codeIn K cdv qn = true
/-- what is made: an exception without a dict -/
structure OwnMade0 (h h' : Heap) (e C : Addr) : Prop where
  keep : ∀ b o, h.get? b = some o → h'.get? b = some o
  new : h.objs.size ≤ e
  obj : ∃ oe vs, h'.get? e = some oe ∧ oe.cls = .ref C ∧ oe.dict = none ∧ oe.data = .fields vs ∧ vs[1]? = some .none ∧
    vs[2]? = some .none
section
variable {prog : Program} {w : World} {A : Around} {E : Value → Shared → Prop} {R : Result → Shared → Prop}
  {s : Shared} {K : Frag} {mg : Str → Option Value} {C fI : Addr} {en qn : Str}
theorem err_init0 (T : ErrTxt0 K mg en qn C fI) {x : Addr} (X : K.In s.heap) (hlim : s.heap.NoLimit)
    (hroom : A.depth < recursionLimit)
    (hq : ∀ h' tk, (∀ b o, s.heap.get? b = some o → h'.get? b = some o) → R (.ok (.ret .none)) { s with heap := h', toks := tk }) :
    codeAny (model prog w) A (.call (.ref fI) ⟨[.ref x], []⟩) R s := by
  obtain ⟨oc, od, doc, pm, an, cdv, ct, osl, p1, q1, ho, hcd⟩ := T.fn
  refine Att.call_fn (binds := [("self", .ref x)]) X hlim ho hcd hroom
    (BindsTo.of_eq (by first | rfl | with_unfolding_all rfl)) (by first | rfl | decide | with_unfolding_all rfl)
    (fun s₁ IC => ?_) rfl rfl rfl
  obtain ⟨h₁, tk₁, rfl⟩ := IC.toInCall.same
  show wpAny _ _ (execs _ _) _ _ _
  refine wpAny_execs_cons ?_
  refine wpAny_Pass ?_
  show wpAny _ _ (execs _ _) _ _ _
  exact wpAny_execs_nil (hq h₁ tk₁ IC.toInCall.keep)
theorem err_made0 (T : ErrTxt0 K mg en qn C fI) (X : K.In s.heap) (hlim : s.heap.NoLimit) (hroom : A.depth + 1 < recursionLimit)
    (hq : ∀ h' tk e, OwnMade0 s.heap h' e C → R (.ok (.ret (.ref e))) { s with heap := h', toks := tk }) :
    codeAny (model prog w) A (.call (.ref C) ⟨[], []⟩) R s := by
  obtain ⟨nm, q, N, bs, bm, sn, sub, ab, col, dd, k0, k1, k2, k3, k5, hC, hbm⟩ := T.cls
  obtain ⟨hp, g, dr, tk, os⟩ := s
  have k : ∀ b o, hp.get? b = some o → ((hp.push (kdv_tup [])).push (excO C hp.objs.size)).get? b = some o :=
    fun b o e => Heap.get?_push_of_some _ (Heap.get?_push_of_some _ e)
  have hget : ((hp.push (kdv_tup [])).push (excO C hp.objs.size)).get? (hp.objs.size + 1) = some (excO C hp.objs.size) := by
    heap_get
  refine call_own F.excBase_ValueError (fun X => refsVE_contains X bm hbm) (X _ _ hC) (looks_findIn X T.iC)
    (fun self => bind_fn X self T.tC) (Nat.zero_le _) ?_
  refine err_init0 (s := ⟨(hp.push (kdv_tup [])).push (excO C hp.objs.size), g, dr, tk, os⟩) T (X.keeps k) (hlim.keeps k) ?_
    fun h' tk' k' => ?_
  · show A.depth + 1 < recursionLimit
    exact hroom
  · exact ⟨rfl, hq h' tk' (hp.objs.size + 1) ⟨fun b o e => k' b o (k b o e), Nat.le_succ _,
      ⟨_, _, k' _ _ hget, rfl, rfl, rfl, rfl, rfl⟩⟩⟩
end
end ErrX
end PySem

namespace KX
open PySem PySem.Spec PyProof.Rows L2
section
variable {X : Cx} {C fI : Addr} {en qn : Str}
def tMkErr0 (C : Addr) : L2.St → Hp → XK → Prop := fun _ H Q => Q (.ref C) none H
theorem pmk_err0 {p pos : Pos} {k : Nat} (T : PySem.ErrX.ErrTxt0 X.K X.mg en qn C fI) (hr : Room k X.A) (hg : Gl X en := by rfl)
    (hdb : (en == ("__debug__" : Str)) = false := by decide) : L2N.PMk X (.Call (.Name en p) [] [] pos) (tMkErr0 C) := by
  intro pins s σ H Q I h
  refine wpAny_Call_Name_kw (ld_glob I hg T.gC ?_ hdb)
  refine PySem.W.callWith_K0 I.kIn T.kC ?_
  show wpAny _ _ (call (.ref C) []) _ _ _
  have hlim := I.nolimit
  have KX := I.kIn
  obtain ⟨hp, g, dr, tk, os⟩ := s
  refine wpAny_call (PySem.ErrX.err_made0 T KX hlim (by have := hr.dp; omega) fun h' tk' e M => ?_)
  show L2N.MkP X pins σ Q (.ref e) ⟨h', g, dr, tk', os⟩
  obtain ⟨oe, fv, hoe, hc, hd, hdat, h1, h2⟩ := M.obj
  refine ⟨e, oe, fv, ⟨hp, g, dr, tk, os⟩, H, .ref C, none, rfl, I, M.keep, Heap.get?_none_of_le M.new, hoe,
    ⟨hc, hd, fun vs' z => by rw [hdat] at z; cases z; exact h2⟩, hdat, h1, I.hok.fresh M.new, rfl, I.bare,
    raises_own T.exC T.tyC, h⟩
def tRaiseErr0 (C : Addr) (W : WX) : TS := fun _ σ H => W (.ref C) none σ H
theorem ps_raiseErr0 {W : WX} {p pos pos2 : Pos} {k : Nat} (hc : X.calm = true) (T : PySem.ErrX.ErrTxt0 X.K X.mg en qn C fI)
    (hr : Room k X.A) (tk : L2N.Takes X W) (hg : Gl X en := by rfl) (hdb : (en == ("__debug__" : Str)) = false := by decide) :
    PS X (.Raise (some (.Call (.Name en p) [] [] pos)) none pos2) (tRaiseErr0 C W) :=
  L2N.ps_raise hc tk (pmk_err0 T hr hg hdb)
end
end KX

namespace KX
open PySem PySem.Spec PyProof.Rows L2 L2H
/-! contracts under a condition C on the call's surroundings -/
abbrev Con := Around → List Env → Shared → Hp → Prop
structure FnR (P : Program) (w : World) (K : PySem.W.Frag) (mg : Str → Option Value) (base : Heap) (CX : CXT) (C : Con)
    (f : Addr) (fd : FuncData) (ps : List Str) (sp : Sp) : Prop where
  sized : ∀ vs H Q E, sp vs H Q E → vs.length = ps.length
  does : ∀ (A : Around) (outer : List Env) (s : Shared) (H : Hp) (args : Args) (us : List Value) (vs : List V) (Q : VK) (E : XK),
    C A outer s H → Env0 P w K mg base A outer s H → BindsTo s fd args (ps.zip us) → Vals vs us → sp vs H Q E →
      codeAny (model P w) A (.call (.ref f) args) (CR CX outer P w H s Q E) s
/-- no repr is under way -/
def CG (k : Nat) : Con := fun A _ _ _ => Room k A ∧ A.guards = some []
/-- p is the exception that is handled -/
def CP (k : Nat) (p : Addr × Obj) : Con := fun A outer s H => RoomH k A ∧ Hot1 A p ∧ PinOk outer H s p
/-- a body's context, calm or not, with pins -/
abbrev cxV (c : Bool) (pn : List (Addr × Obj)) (X : Cx) : Cx := { X with calm := c, pn := pn }
section
variable {CX : CXT} {P : Program} {w : World} {K : PySem.W.Frag} {mg : Str → Option Value} {base : Heap} {f : Addr}
  {name qual : Str} {params : Arguments} {body : List Stmt} {scope : Scope} {dV kV doc pm cdv ct oc : Value}
  {an od : Option Addr} {osl : Array (Option Value)} {N ps : List Str}
theorem call_body {A : Around} {outer : List Env} {s : Shared} {H : Hp} {args : Args} {us : List Value} {vs : List V} {Q : VK}
    {E : XK} {c : Bool} {pn : List (Addr × Obj)}
    (lk : K.lookup f = some ⟨oc, od, .func (PySem.W.fnOf name qual params body scope dV kV doc pm an cdv ct), osl⟩)
    (hcd : PySem.W.codeIn K cdv qual = true) (S : FnScope N ps scope) (hdp : A.depth < recursionLimit)
    (e0 : Env0 P w K mg base A outer s H)
    (hb : BindsTo s (PySem.W.fnOf name qual params body scope dV kV doc pm an cdv ct) args (ps.zip us))
    (begins : ∀ s1, InCallC s s.heap.objs.size
        (bindL (envOfC qual scope s.heap.objs.size f cdv).kindOf (ps.zip us) fun _ => none)
        (cellsFrom (s.heap.objs.size + 1) scope.names [])
        (bindC (envOfC qual scope s.heap.objs.size f cdv).kindOf (ps.zip us) fun _ => none) s1 →
      L2.Inv (cxV c pn (cxOf CX P w K mg base N qual scope f cdv A outer s H E)) [] (L2.start N vs) H s1)
    (reads : ∃ t, PSs (cxV c pn (cxOf CX P w K mg base N qual scope f cdv A outer s H E)) body t ∧
      t { nx := fun _ H' => Q .non H', rt := Q } (L2.start N vs) H) :
    codeAny (model P w) A (.call (.ref f) args) (CR CX outer P w H s Q E) s := by
  have stays : ∀ b o, base.get? b = some o → s.heap.get? b = some o := fun b o e => (e0.bs b o e).1
  have KI := e0.mod.kin.keeps stays
  have NL := e0.mod.nolimit.keeps stays
  refine codeAny_call_function hdp (KI _ _ lk) rfl S.co S.gen rfl
    (PySem.W.codeRec_of KI hcd) (hb _ _ _ _ ?_)
  refine wpAny_newFunctionEnv_cells S.kind (fun y hy => ?_) fun env he s1 x => ?_
  · obtain ⟨n, v⟩ := y
    cases S.par n (List.of_mem_zip hy).1 with
    | inl q => exact Or.inl q
    | inr q => exact Or.inr ⟨q, PySem.W.cellsFrom_some _ _ _ (Or.inl q)⟩
  · subst he
    obtain ⟨t, ht, hq⟩ := reads
    have I := begins s1 x
    refine ⟨NL.keeps x.toInCall.keep, codeAny_func (wpAny_mono (ht.run [] s1 (L2.start N vs) H _ I hq)
      (fun fl s' hs => ?_) fun e s' hs => hs)⟩
    cases fl with
    | ret u =>
      obtain ⟨v, σ', H', J, rv, q⟩ := hs
      exact ⟨v, H', J.os, J.bare, J.base, J.hok, rv, q⟩
    | next =>
      obtain ⟨σ', H', J, q⟩ := hs
      exact ⟨V.non, H', J.os, J.bare, J.base, J.hok, rfl, q⟩
    | brk => exact False.elim hs.choose_spec.choose_spec.2
    | cont => exact False.elim hs.choose_spec.choose_spec.2
/-- a def under CG -/
theorem fnG_of {k : Nat} {sp : Sp}
    (lk : K.lookup f = some ⟨oc, od, .func (PySem.W.fnOf name qual params body scope dV kV doc pm an cdv ct), osl⟩)
    (hcd : PySem.W.codeIn K cdv qual = true) (S : FnScope N ps scope)
    (sized : ∀ vs H Q E, sp vs H Q E → vs.length = ps.length)
    (reads : ∀ (A : Around) (outer : List Env) (s : Shared) (H : Hp) (vs : List V) (Q : VK) (E : XK),
      Room k (A.deeper (envOfC qual scope s.heap.objs.size f cdv)) → A.guards = some [] → sp vs H Q E →
      ∃ t, PSs (cxOf CX P w K mg base N qual scope f cdv A outer s H E) body t ∧
        t { nx := fun _ H' => Q .non H', rt := Q } (L2.start N vs) H) :
    FnR P w K mg base CX (CG (k + 1)) f (PySem.W.fnOf name qual params body scope dV kV doc pm an cdv ct) ps sp :=
  ⟨sized, fun A outer s H args us vs Q E hc e0 hb r h =>
    call_body (c := true) (pn := []) lk hcd S hc.1.depth e0 hb
      (fun s1 x => inv_start S hc.1.hd e0 (sized _ _ _ _ h) r x) (reads A outer s H vs Q E (hc.1.deeper _) hc.2 h)⟩
/-- a def under CP -/
theorem fnP_of {k : Nat} {sp : Sp} {p : Addr × Obj}
    (lk : K.lookup f = some ⟨oc, od, .func (PySem.W.fnOf name qual params body scope dV kV doc pm an cdv ct), osl⟩)
    (hcd : PySem.W.codeIn K cdv qual = true) (S : FnScope N ps scope)
    (sized : ∀ vs H Q E, sp vs H Q E → vs.length = ps.length)
    (reads : ∀ (A : Around) (outer : List Env) (s : Shared) (H : Hp) (vs : List V) (Q : VK) (E : XK), Hot1 A p →
      RoomH k (A.deeper (envOfC qual scope s.heap.objs.size f cdv)) → sp vs H Q E →
      ∃ t, PSs (cxV false [p] (cxOf CX P w K mg base N qual scope f cdv A outer s H E)) body t ∧
        t { nx := fun _ H' => Q .non H', rt := Q } (L2.start N vs) H) :
    FnR P w K mg base CX (CP (k + 1) p) f (PySem.W.fnOf name qual params body scope dV kV doc pm an cdv ct) ps sp :=
  ⟨sized, fun A outer s H args us vs Q E hc e0 hb r h =>
    call_body (c := false) (pn := [p]) lk hcd S hc.1.depth e0 hb
      (fun s1 x => inv_startH S hc.2.2 e0 (sized _ _ _ _ h) r x)
      (reads A outer s H vs Q E hc.2.1 (hc.1.deeper _) h)⟩
end
section
variable {X : Cx} {CX : CXT} {C : Con} {f : Addr} {fd : FuncData} {ps : List Str} {sp : Sp} {E : XK} {x : Str} {p pos : Pos}
  {e : Expr} {es : List Expr} {t : TA}
/-- a call of such a def -/
theorem pe_callR (F : FnR X.prog X.w X.K X.mg X.base CX C f fd ps sp)
    (hC : ∀ pins σ H s, L2.Inv X pins σ H s → C X.A X.stack s H) (hg : Gl X x) (hm : X.mg x = some (.ref f))
    (hk : PySem.W.keepIn X.K (.ref f) = true) (hb : Binds X.K fd ps []) (hx : Passes CX X E) (ha : PA X (e :: es) t)
    (hdb : (x == ("__debug__" : Str)) = false := by decide)
    (he : starEach (e :: es) X.env = (false, eval e X.env) :: starEach es X.env := by rfl)
    (hpl : (backTo pos (starEach es X.env)).any (·.1) = false := by rfl) :
    PE X (.Call (.Name x p) (e :: es) [] pos) (tCall sp [] E t) := by
  refine ⟨fun pins s σ H Q I h => wpAny_Call_Name_kw (ld_glob I hg hm ?_ hdb)⟩
  refine PySem.W.callWith_K (h₀ := X.base) I.ok.mod.kin hk
    (thn (ha.run pos pins s σ H _ I h) fun us s1 hh => ?_) he hpl
  obtain ⟨vs, H1, I1, r, q⟩ := hh
  rw [List.append_nil] at q
  have hl : (us ++ []).length = ps.length := by
    rw [List.append_nil, ← r.length]
    exact F.sized _ _ _ _ q
  have b := hb s1 us I1.kIn hl
  rw [List.append_nil] at b
  refine ⟨I1.kIn, wpAny_call (codeAny_mono
    (F.does X.A X.stack s1 H1 ⟨us, []⟩ us vs Q E (hC _ _ _ _ I1) I1.env0 b r q) fun r s' hq => ?_)⟩
  match r, hq with
  | .error e, hq => exact hx pins σ H1 s1 e s' I1 hq
  | .ok (.ret u), hq => exact I1.after hq
end
end KX

namespace KX
open PySem PySem.Spec PyProof.Rows L2 L2H
/-! in an except suite -/
theorem hot_suite {X : Cx} {a : Addr} {oe : Obj} {cls : Value} {d : Option Addr} {pn : List (Addr × Obj)}
    (hz : L2N.Zn cls d oe) (hf : ∃ vs, oe.data = .fields vs) : HotC (X.suite a ((a, oe) :: pn)) := by
  obtain ⟨vs, hv⟩ := hf
  exact ⟨(a, oe), ⟨rfl, vs, hv, hz.2.2 vs hv⟩, List.mem_cons_self⟩
/-- the dict of the exception, if any, is tracked -/
def DictIs (d : Option Addr) (H : Hp) : Prop := d = none ∨ ∃ dd fs, d = some dd ∧ H dd = some (.xd fs)
/-- isinstance(e, c), e pinned -/
def rIsP (K : PySem.W.Frag) (D a : Addr) (d : Option Addr) : List V → Hp → VK → Prop := fun xs H Q =>
  DictIs d H ∧ ∃ (c : V) (cv : Value) (b : Bool), xs = [.ref a, c] ∧ (∀ u, RelV c u → u = cv) ∧
    PySem.W.kitOne K (.ref D) cv = some b ∧ Q (.bl b) H
theorem call_isP {X : Cx} {a D : Addr} {oe : Obj} {d : Option Addr} (C : ExcC X.K D) (hp : (a, oe) ∈ X.pn)
    (hz : Zc (.ref D) d oe) (hf : ∃ vs, oe.data = .fields vs) : CallR X (.builtin "isinstance") (rIsP X.K D a d) := by
  intro pins s σ H xs us Q I r h
  obtain ⟨hd, c, cv, b, rfl, hcv, e, q⟩ := h
  cases r with
  | cons rx rr =>
    cases rr with
    | cons rt rr =>
      cases rr
      cases rx
      have ec := hcv _ rt
      subst ec
      obtain ⟨hget, _⟩ := I.pin (a, oe) (List.mem_append_left _ hp)
      obtain ⟨vs, hv⟩ := hf
      obtain ⟨od, J⟩ : ∃ od, PySem.W.InstAt s.heap a oe D od := by
        rcases hd with hd | ⟨dd, fs, hd, hH⟩
        · refine ⟨none, hget, hz.1, by unfold PySem.W.notCls; rw [hv] <;> rfl, ?_⟩
          rw [hz.2, hd]
          trivial
        · have hx : ObjOk X.prog X.w H s.heap dd (.xd fs) := I.hok dd _ hH
          obtain ⟨mA, hns, _⟩ := hx
          obtain ⟨od, ho, _⟩ := lookIn_ns hns
          refine ⟨some od, hget, hz.1, by unfold PySem.W.notCls; rw [hv] <;> rfl, ?_⟩
          rw [hz.2, hd]
          exact ho
      have hcl : (PySem.W.clsIn X.K D).isSome = true := by
        obtain ⟨cd, hc, _⟩ := PySem.W.any_some C.hd
        rw [hc]
        rfl
      exact PySem.W.kia_one (PySem.W.kitx_exc (od := od) (ox := oe) hcl C.hg C.hk C.hs C.ha C.hn C.ht C.hm) I.kIn J e
        (fun z => nomatch z) fun tk => ⟨.bl b, H, I.kept (t' := tk) fun _ _ z => z, rfl, q⟩
/-! a list comprehension there -/
section
variable {X : Cx}
/-- the block's context, the handled exception pinned -/
abbrev hblk (X : Cx) (p : Addr × Obj) (s : Shared) (H : Hp) (scope : Scope) (ce : Env) (fp : List Addr) : Cx :=
  (X.blk s H scope ce fp).tr ([] ++ [p]) (fun _ _ => False)
theorem to_hblk {p : Addr × Obj} {s s' : Shared} {H H' : Hp} {scope : Scope} {ce : Env} {fp : List Addr} {σ : L2.St}
    (I : L2.Inv (X.blk s H scope ce fp) [] σ H' s')
    (h : s'.heap.get? p.1 = some p.2 ∧ H' p.1 = none ∧ p.1 ≠ ce.locals ∧ p.1 ∉ (X.blk s H scope ce fp).fs ∧ ∀ v, p.2.data ≠ .cell v) :
    L2.Inv (hblk X p s H scope ce fp) [] σ H' s' :=
  (I.pins_of (pins' := [p]) fun q hq => by rw [List.mem_singleton.mp hq]; exact h).toTry _
theorem hblk_hot {p : Addr × Obj} {s : Shared} {H : Hp} {scope : Scope} {ce : Env} {fp : List Addr} (h : Hot1 X.A p) :
    HotC (hblk X p s H scope ce fp) := ⟨p, h, by simp⟩
theorem pe_lcHot {p : Addr × Obj} {elt tg iter : Expr} {scope : Scope} {own : List (Str × Nat)} {pos : Pos} {wi : TI} {g : TG}
    {te : TE} (hot : Hot1 X.A p) (hp : p ∈ X.pn) (hN : X.N.Nodup) (hi : PIH X tg iter wi) (ok : BlkOk X.N X.env.scope scope own)
    (hg : ∀ s H C cl fp, PG (hblk X p s H scope (compEnvC scope cl C X.env) fp) tg g)
    (he : ∀ s H C cl fp, PE (hblk X p s H scope (compEnvC scope cl C X.env) fp) elt te)
    (hs : ∀ x, foldedSetIterable iter X.env x = pure x := by intro _; rfl) :
    PE X (.ListComp elt [⟨tg, iter, [], 0⟩] scope pos) (tLc wi g tYes te (own.map (·.2))) := by
  refine ⟨fun pins s σ H Q I h => ?_⟩
  rw [eval_ListComp]
  have free : ∀ y ∈ scope.names, y.2 = .free → ∃ c, X.env.cells.lookup y.1 = some c := fun y hy e =>
    (ok.free y hy e).elim (fun k => I.ok.has _ (Or.inl k)) fun k => I.ok.has _ (Or.inr k)
  refine wpAny_comprehension_free (use := none) rfl hs (closure_ok free) ok.kind
    (fun y hy e => by rw [ok.uniq y hy, e])
    (thn (hi.run pins s σ H _ I h) fun xv s1 hx => thn hx fun itv s2 h2 => ?_)
  obtain ⟨it, fp, tn, J, H2, e, I2, T, st2, f2, q⟩ := h2
  subst e
  refine wpAny_newObj_type (newEnv_comp ?_) (by show 0 ≤ sizeLine; decide)
  generalize hD : s2.heap.objs.size = D
  have hDn : H2 D = none := I2.hok.fresh (Nat.le_of_eq hD)
  obtain ⟨W, ⟨m0, w0⟩, turn⟩ := q D hDn
  generalize hs3 : ({ s2 with heap := s2.heap.push { cls := .type "list", data := .seq ([] : List Value).toArray } } : Shared) = s3
  have k23 : ∀ b o, s2.heap.get? b = some o → s3.heap.get? b = some o := fun b o e => by
    rw [← hs3]
    exact Heap.get?_push_of_some _ e
  have I3 : L2.Inv X pins σ (upd H2 D (.lst [])) s3 := by
    rw [← hs3]
    refine I2.laid (t' := s2.toks) (fun b o e => Heap.get?_push_of_some _ e) (Nat.le_of_eq hD)
      ⟨Nat.zero_le _, [], 0, .nil, ?_⟩
    rw [← hD]
    exact Heap.get?_push_size _ rfl
  have sz3 : s3.heap.objs.size = s2.heap.objs.size + 1 := by rw [← hs3]; exact Heap.size_push ..
  have P3 := I3.pin p (List.mem_append_left _ hp)
  have small : ∀ b ∈ fp, b < s2.heap.objs.size := fun b hb =>
    let ⟨_, e, _⟩ := T.obj _ _ st2 b hb
    Heap.lt_size e
  have f3 : ∀ b ∈ fp, FpOk X pins (upd H2 D (.lst [])) b ∧ b < s3.heap.objs.size := fun b hb => by
    have hlt := small b hb
    refine ⟨⟨?_, (f2 b hb).2⟩, by rw [sz3]; exact Nat.lt_succ_of_lt hlt⟩
    rw [upd_ne (by rw [← hD]; exact Nat.ne_of_lt hlt)]
    exact (f2 b hb).1
  have st3 : tn 0 s3.heap := T.keep _ _ _ st2 fun b _ o e => k23 b o e
  have I4' := block_start I3 ok hN f3
  show codeAny _ _ (.compStart (.ListComp elt [⟨tg, iter, [], 0⟩] scope pos) 0 (.ref it) (.ref D)
      (compEnvC scope (cellsFrom (s3.heap.objs.size + 1) scope.names (cloFrom X.env.cells scope.names [])) s3.heap.objs.size X.env))
    (compPost (model X.prog X.w) X.A X.xe none (EP X pins σ Q) (.ref D) s3.heap.objs.size)
    { s3 with heap := pushCells (s3.heap.push { cls := .type "dict", data := .dict #[] }) scope.names }
  have pg := hg s3 (upd H2 D (.lst [])) s3.heap.objs.size
    (cellsFrom (s3.heap.objs.size + 1) scope.names (cloFrom X.env.cells scope.names [])) fp
  have pe := he s3 (upd H2 D (.lst [])) s3.heap.objs.size
    (cellsFrom (s3.heap.objs.size + 1) scope.names (cloFrom X.env.cells scope.names [])) fp
  generalize hce : compEnvC scope (cellsFrom (s3.heap.objs.size + 1) scope.names
    (cloFrom X.env.cells scope.names [])) s3.heap.objs.size X.env = ce at I4' pg pe ⊢
  have cL : ce.locals = s3.heap.objs.size := by subst hce; rfl
  generalize hH3 : upd H2 D (.lst []) = H3 at I3 I4' pg pe w0 f3 P3
  generalize hs4 : ({ s3 with heap := pushCells (s3.heap.push { cls := .type "dict", data := .dict #[] }) scope.names } : Shared) = s4
    at I4' ⊢
  have k34 : ∀ b o, s3.heap.get? b = some o → s4.heap.get? b = some o := fun b o e => by
    rw [← hs4]
    exact pushCells_keeps _ _ _ _ (Heap.get?_push_of_some _ e)
  have st4 : tn 0 s4.heap := T.keep _ _ _ st3 fun b _ o e => k34 b o e
  have nfs : p.1 ∉ (X.blk s3 H3 scope ce fp).fs := fun hm =>
    (List.mem_cons.mp (I3.stkSub p.1 hm)).elim P3.2.2.1 P3.2.2.2.1
  have I4 : L2.Inv (hblk X p s3 H3 scope ce fp) [] (wipe σ (own.map (·.2))) H3 s4 := to_hblk I4'
    ⟨k34 _ _ P3.1, P3.2.1, by rw [cL]; exact Nat.ne_of_lt (Heap.lt_size P3.1), nfs, P3.2.2.2.2⟩
  have hc : HotC (hblk X p s3 H3 scope ce fp) := hblk_hot hot
  have nfp : ∀ b ∈ fp, H3 b = none := fun b hb => (f3 b hb).1.1
  have stat : ∀ {σ' : L2.St} {H' : Hp} {s' : Shared}, L2.Inv (hblk X p s3 H3 scope ce fp) [] σ' H' s' → (∀ b ∈ fp, H' b = none) →
      ∀ b ∈ fp, FpOk (hblk X p s3 H3 scope ce fp) [] H' b := fun {σ' H' s'} I' hn b hb =>
    ⟨hn b hb, (I'.ok.exf b hb).1, I'.ok.exfs b hb, Or.inl hb, fun x c e => (I'.ok.exf b hb).2 x c e, fun r hr => by
      have er : r = p := by simpa using hr
      rw [er]
      exact (f3 b hb).1.2.2.2.2.2 p (List.mem_append_left _ hp)⟩
  have loop : codeAny (model X.prog X.w) X.A (.compLoop (.ListComp elt [⟨tg, iter, [], 0⟩] scope pos) 0 (.ref it) (.ref D) ce)
      (compPost (model X.prog X.w) X.A X.xe none (EP X pins σ Q) (.ref D) s3.heap.objs.size) s4 := by
    refine compLoop_any (fun n s' => ∃ i H', L2.Inv (hblk X p s3 H3 scope ce fp) [] (wipe σ (own.map (·.2))) H' s' ∧
      tn i s'.heap ∧ (∀ b ∈ fp, H' b = none) ∧ W i n H') ?_ m0 ⟨0, H3, I4, st4, nfp, w0⟩
    rintro n s5 ⟨i, H5, I5, st5, n5, w5⟩
    rcases turn i n H5 w5 with ⟨stop, qq⟩ | ⟨go, Nx, hNx, step⟩
    · refine thnF (T.done (hblk X p s3 H3 scope ce fp) rfl rfl rfl hc i [] s5 _ H5 (fun _ _ => False) I5 (stat I5 n5) st5 stop)
        fun r s6 hr => ?_
      obtain ⟨rfl, I6⟩ := hr
      have I7 : L2.Inv X pins σ H5 s6 := I3.call' (ch := fp) I6.os I6.base I6.hok I6.bare fun b hb =>
        let z := (f3 b hb).1.2
        ⟨z.2.2.1, z.1, z.2.2.2.1, z.2.2.2.2⟩
      have nC : H5 s3.heap.objs.size = none := by rw [← cL]; exact I6.free
      obtain ⟨m, hn, _⟩ := I6.loc
      have hn : s6.heap.Ns s3.heap.objs.size m := by rw [← cL]; exact hn
      obtain ⟨g0, g1, g2, g3, g4, g5⟩ := I3.fpOk (Nat.le_refl _) nC
      exact ⟨m, hn, fun h'' sb => ⟨.ref D, H5,
        I7.turned (t' := s6.toks) (fun b o hb e => (sb.2 b hb).trans e) g0 g1 g3 g4 g5, rfl, qq⟩⟩
    · refine thnF (T.item (hblk X p s3 H3 scope ce fp) rfl rfl rfl hc i [] s5 _ H5 (fun _ _ => False) I5 (stat I5 n5) st5 go)
        fun r s6 hr => ?_
      obtain ⟨u, rfl, h6⟩ := hr
      refine thnF h6 fun _ s7 h7 => ?_
      obtain ⟨x, H7, I7, r7, y7, st7, n7⟩ := h7
      have I7' := I7.pinned (stat I7 n7) (T.obj _ _ st7)
      refine thnF (pg.run _ s7 _ H7 x u _ I7' r7 (step x H7 y7)) fun _ s8 h8 => ?_
      obtain ⟨σ8, H8, I8, hw8, q8⟩ := h8
      refine wpAny_pure ?_
      have q9 : te σ8 H8 fun y H4 => ∃ acc, H4 D = some (.lst acc) ∧ acc.length < sizeLine ∧ Nx (upd H4 D (.lst (acc ++ [y]))) := q8
      simp only [if_true]
      refine thnF (pe.run _ s8 σ8 H8 _ I8 q9) fun z s10 h10 => ?_
      obtain ⟨yv, H10, I10, r10, acc, hD10, hz10, nx⟩ := h10
      refine app_ok (X := hblk X p s3 H3 scope ce fp) I10 hD10 hz10 r10 fun s11 I11 => ?_
      obtain ⟨m', hm, w'⟩ := hNx _ nx
      have kept : ∀ b ∈ fp, ∀ o, s7.heap.get? b = some o → s11.heap.get? b = some o ∧
          (upd H10 D (.lst (acc ++ [yv]))) b = none := fun b hb o e =>
        let z := I11.pin (b, o) (List.mem_append_right _ (List.mem_append_right _ (mem_pinsAt hb e)))
        ⟨z.1, z.2.1⟩
      refine ⟨m', hm, i + 1, _, (I11.unpinned (pins := [])).weak (by rw [← hw8, wipe_length]) (fun j v e => ?_),
        T.keep _ _ _ st7 fun b hb o e => (kept b hb o e).1, fun b hb => ?_, w'⟩
      · rw [← hw8] at e
        exact (wipe_some e).1
      · obtain ⟨o, e, _⟩ := T.obj _ _ st7 b hb
        exact (kept b hb o e).2
  exact codeAny_compStart_list loop (T.self X.A 0 _ _ _ st4 loop)
end
end KX

namespace KX
open PySem PySem.Spec PyProof.Rows L2 L2H
/-! the law's own call, its def promised under CG -/
theorem none_or_at {H : Hp} {a : Addr} (hA : ∀ b, H b ≠ none → b = a) (b : Addr) : H b = none ∨ b = a := by
  cases q : H b with
  | none => exact Or.inl rfl
  | some u => exact Or.inr (hA b (by rw [q]; exact fun z => nomatch z))
theorem lawG_core {P : Program} {w : World} {K : PySem.W.Frag} {mg mb : Str → Option Value} {CX : CXT} {k : Nat} {fa a : Addr}
    {fd : FuncData} {x : Str} {sp : Sp} {s₁ : Shared} {vs : List Value} {H : Hp}
    (KI : K.In s₁.heap) (hns : s₁.heap.Ns mainGlobals mg) (hb : s₁.heap.Ns builtinsNs mb)
    (hbb : ∀ x : Str, x ≠ "__name__" → mb x = bootBuiltins x) (hlim : s₁.heap.NoLimit) (hg : s₁.gens = #[])
    (ha : s₁.heap.get? a = some { cls := .type "list", data := .seq vs.toArray }) (hr : Room k callerA)
    (F : ∀ base : Heap, K.In base → base.Ns mainGlobals mg → FnR P w K mg base CX (CG k) fa fd [x] sp)
    (hbind : ∀ (s : Shared) (u : Value), BindsTo s fd ⟨[u], []⟩ [(x, u)])
    (hCX : ∀ H e s', CX [] H s₁ (fun _ _ _ => False) e s' → False)
    (hO : Only H) (hS : sp [.ref a] H (fun v _ => v = .bl true) fun _ _ _ => False) (hok : HOk P w H s₁.heap)
    (hA : ∀ b, H b ≠ none → b = a) (hK : H a ≠ none → K.lookup a = none) :
    codeAny (model P w) callerA (.call (.ref fa) ⟨[.ref a], []⟩)
      (fun r s' => r = .ok (.ret (.bool true)) ∧ OldK s₁.heap s'.heap ∧ s'.os = s₁.os ∧ AllBare s'.gens) s₁ := by
  have dictFree : ∀ {b : Addr} {o : Obj} {es : Array DictEntry} {ep : Nat}, s₁.heap.get? b = some o → o.data = .dict es ep → H b = none :=
    fun {b o es ep} e d => (none_or_at hA b).resolve_right fun z => by
      subst z
      rw [ha] at e
      cases e
      have d' : Data.seq vs.toArray _ = Data.dict es ep := d
      cases d'
  have ns' : ∀ {b : Addr} {m : Str → Option Value}, s₁.heap.Ns b m → (hidT s₁.heap H).Ns b m := fun {b m} n => by
    obtain ⟨o, es, ep, e, d, r⟩ := n
    exact ⟨o, es, ep, hidT_get e (dictFree e d), d, r⟩
  have KB : K.In (hidT s₁.heap H) := fun b o e => by
    cases q : H b with
    | none => exact hidT_get (KI b o e) q
    | some u =>
      have eb : b = a := hA b (by rw [q]; exact fun z => nomatch z)
      subst eb
      rw [hK (by rw [q]; exact fun z => nomatch z)] at e
      cases e
  have MB : Mod K mg (hidT s₁.heap H) := by
    obtain ⟨mc, h1, h2⟩ := hlim
    exact ⟨KB, ns' hns, ⟨mb, ns' hb, hbb⟩, ⟨mc, ns' h1, h2⟩⟩
  have e0 : Env0 P w K mg (hidT s₁.heap H) callerA [] s₁ H :=
    ⟨rfl, MB, fun b o e => of_hidT e, Nat.le_of_eq (hidT_size _ _), trivial,
      fun b hb => absurd (show b ∈ ([] : List Addr) from hb) (by simp), hok, .of_eq hg⟩
  refine codeAny_mono ((F _ KB (ns' hns)).does callerA [] s₁ H ⟨[.ref a], []⟩ [.ref a] [.ref a] _ _ ⟨hr, rfl⟩ e0
    (hbind s₁ (.ref a)) (.cons rfl .nil) hS) fun r s' h => ?_
  match r, h with
  | .error e, h => exact (hCX H e s' h).elim
  | .ok (.ret u), h =>
    obtain ⟨v, H', os, bare, un, hok', r', q⟩ := h
    have q' : v = .bl true := q
    subst q'
    obtain rfl : u = Value.bool true := r'
    refine ⟨rfl, OldK.of_keep fun b o e => ?_, os, bare⟩
    cases q : H b with
    | none => exact un.keep b o e q (by intro z; exact absurd (show b ∈ ([] : List Addr) from z) (by simp)) (by simp)
    | some u =>
      rcases hO b with z | ⟨ob, xs, z⟩
      · rw [q] at z
        cases z
      · have e1 := (hok b _ z).1
        have e2 := (hok' b _ (un.frzs b ob _ z)).1
        rw [e] at e1
        cases e1
        exact e2
theorem law_callG {P : Program} {w : World} {K : PySem.W.Frag} {mg mb : Str → Option Value} {CX : CXT} {k : Nat} {fa a : Addr}
    {fd : FuncData} {x : Str} {sp : Sp} {s₁ : Shared} {vs : List Value} {ns : List Int}
    (KI : K.In s₁.heap) (hns : s₁.heap.Ns mainGlobals mg) (hb : s₁.heap.Ns builtinsNs mb)
    (hbb : ∀ x : Str, x ≠ "__name__" → mb x = bootBuiltins x) (hlim : s₁.heap.NoLimit) (hg : s₁.gens = #[])
    (ha : s₁.heap.get? a = some { cls := .type "list", data := .seq vs.toArray }) (hi : IntsAre vs ns)
    (hl : ns.length ≤ sizeLine) (hr : Room k callerA)
    (F : ∀ base : Heap, K.In base → base.Ns mainGlobals mg → FnR P w K mg base CX (CG k) fa fd [x] sp)
    (hbind : ∀ (s : Shared) (u : Value), BindsTo s fd ⟨[u], []⟩ [(x, u)])
    (hsp : ∀ H : Hp, Only H → SqL K H a (ns.map V.int) → sp [.ref a] H (fun v _ => v = .bl true) fun _ _ _ => False)
    (hCX : ∀ H e s', CX [] H s₁ (fun _ _ _ => False) e s' → False) :
    codeAny (model P w) callerA (.call (.ref fa) ⟨[.ref a], []⟩)
      (fun r s' => r = .ok (.ret (.bool true)) ∧ OldK s₁.heap s'.heap ∧ s'.os = s₁.os ∧ AllBare s'.gens) s₁ := by
  have rv := vals_ints hi
  cases hk : K.lookup a with
  | some o =>
    have e := KI a o hk
    rw [ha] at e
    cases e
    have O : Only fun _ => none := fun _ => Or.inl rfl
    have S : SqL K (fun _ => none) a (ns.map V.int) :=
      Or.inr ⟨_, vs.toArray, _, hk, rfl, rfl, rfl, by rw [List.size_toArray, hi.length]; exact hl, by simpa using rv⟩
    exact lawG_core KI hns hb hbb hlim hg ha hr F hbind hCX O (hsp _ O S) (fun b u z => nomatch z) (fun b z => absurd rfl z)
      fun z => absurd rfl z
  | none =>
    let H : Hp := fun b => if b = a then
      some (.frz { cls := .type "list", data := .seq vs.toArray } (.lst (ns.map V.int))) else none
    have at_ : H a = some (.frz { cls := .type "list", data := .seq vs.toArray } (.lst (ns.map V.int))) := if_pos rfl
    have off : ∀ {b}, b ≠ a → H b = none := fun h => if_neg h
    have O : Only H := fun b => by
      by_cases h : b = a
      · subst h
        exact Or.inr ⟨_, _, at_⟩
      · exact Or.inl (off h)
    have S : SqL K H a (ns.map V.int) := Or.inl (Or.inr ⟨_, at_⟩)
    refine lawG_core (H := H) KI hns hb hbb hlim hg ha hr F hbind hCX O (hsp _ O S) (fun b u z => ?_)
      (fun b z => Classical.byContradiction fun h => z (off h)) fun _ => hk
    by_cases h : b = a
    · subst h
      rw [at_] at z
      cases z
      exact ⟨ha, by rw [List.length_map]; exact hl, vs, _, rv, ha⟩
    · rw [off h] at z
      cases z
/-- what k_head leaves, by the law's promise under CG -/
theorem walk_ofG {l : PySem.W.OpenLaw} {n k : Nat} {q : Program} {loose : List Str} {XP : (Str → Option Value) → Heap → Prop}
    {YP : World → Heap → Prop} {d : DefRec} {K : Params → PySem.W.Frag} {CX : CXT} {sp : PySem.W.Frag → Sp} {x : Str}
    (hn : l.most = some n) (hn2 : n ≤ sizeLine) (hdf : d.params.defaults = []) (hr : Room k callerA)
    (hY : ∀ (w : World) (h : Heap), YP w h → (K w.params).In h)
    (F : ∀ (w : World) (mg : Str → Option Value) (fa : Addr) (h : Heap), (K w.params).In h → h.Ns mainGlobals mg →
      mg d.name = some (.ref fa) → ∃ fd : FuncData, (∀ (s : Shared) (u : Value), BindsTo s fd ⟨[u], []⟩ [(x, u)]) ∧
        ∀ base : Heap, (K w.params).In base → base.Ns mainGlobals mg →
          FnR l.prog w (K w.params) mg base CX (CG k) fa fd [x] (sp (K w.params)))
    (hsp : ∀ (K : PySem.W.Frag) (H : Hp) (a : Addr) (ns : List Int), ns.length ≤ n → Only H → SqL K H a (ns.map V.int) →
      sp K [.ref a] H (fun v _ => v = .bl true) fun _ _ _ => False)
    (hCX : ∀ (H : Hp) (s : Shared) (e : Value) (s' : Shared), CX [] H s (fun _ _ _ => False) e s' → False) :
    PySem.W.WalkO q loose XP YP l.row.toRowW d [] (fun f vs => PySem.call f vs) := by
  refine Att.attach_call hn hdf fun w s₀ s₁ mg mb fa o pm cd doc a vs ns G Y ho hd hcd hmg hobj hints hlen hg => ?_
  have KI := hY w _ Y
  obtain ⟨fd, hb, hF⟩ := F w mg fa _ KI G.T.g hmg
  exact law_callG KI G.T.g G.T.b G.T.builtins G.T.nolimit hg hobj hints (Nat.le_trans hlen hn2) hr hF hb
    (fun H hO hS => hsp (K w.params) H a ns hlen hO hS) fun H e s' => hCX H s₁ e s'
end KX

namespace KX
open PySem PySem.Spec PyProof.Rows L2
/-! calls by keywords alone -/
section
variable {X : Cx} {CX : CXT} {k : Nat} {f : Addr} {fd : FuncData} {ps ks : List Str} {sp : Sp} {E : XK} {x : Str} {p pos : Pos}
  {kws : List Keyword} {t tk : TA} {g : List Value → List Value → List Value} {gV : List V → List V → List V}
def tCallK (m : Nat) (sp : Sp) (gV : List V → List V → List V) (E : XK) (tk : TA) : TE := fun σ H Q =>
  tk σ H fun zs H2 => zs.length = m ∧ sp (gV [] zs) H2 Q E
theorem pe_callK (F : FnOk X.prog X.w X.K X.mg X.base CX k f fd ps sp) (hr : Room k X.A) (hg : Gl X x) (hm : X.mg x = some (.ref f))
    (hk : PySem.W.keepIn X.K (.ref f) = true) (hb : KBn X.K fd ps 0 ks g gV) (hx : Passes CX X E) (hkw : PK X kws tk)
    (hall : (backToKw pos (keywordEach kws X.env)).all (·.1.isSome) = true := by rfl)
    (hks : (backToKw pos (keywordEach kws X.env)).filterMap (·.1) = ks := by rfl)
    (hdb : (x == ("__debug__" : Str)) = false := by decide)
    (hpl : ((backTo pos (starEach [] X.env)).any (·.1) || (backToKw pos (keywordEach kws X.env)).any (·.1.isNone)) = false := by rfl) :
    PE X (.Call (.Name x p) [] kws pos) (tCallK ks.length sp gV E tk) := by
  refine ⟨fun pins s σ H Q I h => wpAny_Call_Name_kw (ld_glob I hg hm ?_ hdb)⟩
  refine PySem.W.callWith_KW0 (h₀ := X.base) I.ok.mod.kin hk hall (thn (hkw.run pos pins s σ H _ I h) fun ws s2 hh => ?_) hpl
  obtain ⟨zs, H2, I2, rz, l2, q2⟩ := hh
  refine ⟨I2.kIn, ?_⟩
  rw [hks]
  exact run_fnN (us := []) (vs := []) F hr hb hx I2 .nil rz rfl l2 q2
/-- two parameters by keywords, in the other order -/
theorem kb_swap {K : PySem.W.Frag} {fd : FuncData} {a b : Str}
    (h : ∀ u v : Value, bindArgs fd ⟨[], [(b, v), (a, u)]⟩ = pure [(a, u), (b, v)]) :
    KBn K fd [a, b] 0 [b, a] (fun _ ws => ws.reverse) (fun _ zs => zs.reverse) where
  to := fun s us ws _ h0 h2 => by
    match us, ws, h0, h2 with
    | [], [v, u], _, _ => exact .of_eq (h u v)
  rel := fun {vs us zs ws} _ r => by
    induction r with
    | nil => exact .nil
    | cons q _ ih =>
      rw [List.reverse_cons, List.reverse_cons]
      exact ih.append (.cons q .nil)
/-- two parameters by keywords, in their order -/
theorem kb_both {K : PySem.W.Frag} {fd : FuncData} {a b : Str}
    (h : ∀ u v : Value, bindArgs fd ⟨[], [(a, u), (b, v)]⟩ = pure [(a, u), (b, v)]) :
    KBn K fd [a, b] 0 [a, b] (fun _ ws => ws) (fun _ zs => zs) where
  to := fun s us ws _ h0 h2 => by
    match us, ws, h0, h2 with
    | [], [u, v], _, _ => exact .of_eq (h u v)
  rel := fun _ r => r
/-- the second one of two by keyword -/
theorem kb_second {K : PySem.W.Frag} {fd : FuncData} {a b : Str}
    (h : ∀ u v : Value, bindArgs fd ⟨[u], [(b, v)]⟩ = pure [(a, u), (b, v)]) :
    KBn K fd [a, b] 1 [b] (fun us ws => us ++ ws) (fun vs zs => vs ++ zs) where
  to := fun s us ws _ h0 h2 => by
    match us, ws, h0, h2 with
    | [u], [v], _, _ => exact .of_eq (h u v)
  rel := fun r1 r2 => r1.append r2
end
/-! // by any number that is not 0 -/
def CDivA (_ j : Int) : Prop := j ≠ 0 ∧ j.natAbs.log2 < 9000
theorem op_fdivA {X : Cx} : OpR X (binaryOp .FloorDiv) (rI CDivA fun i j => .int (i.fdiv j)) := opI fun i j _ _ _ _ _ hc q =>
  floordiv_int hc.1 q (.inl (PyProof.noPylong_of_log2 hc.2))
/-! which values are integers -/
inductive Kin (K : PySem.W.Frag) (H : Hp) : V → Option Int → Prop
  | int (i : Int) : Kin K H (.int i) (some i)
  | oth {x : V} {n : String} {b1 b2 : Bool} (t : TyX K H x (.type n)) (h1 : kitB n "int" = some b1) (h2 : kitB n "bool" = some b2)
      (h : (b1 && !b2) = false) : Kin K H x none
theorem Kin.ty {K : PySem.W.Frag} {H : Hp} {x : V} {o : Option Int} (k : Kin K H x o) :
    ∃ n b1 b2, TyX K H x (.type n) ∧ kitB n "int" = some b1 ∧ kitB n "bool" = some b2 ∧ (b1 && !b2) = o.isSome := by
  cases k with
  | int i => exact ⟨"int", true, false, .base (.int i), by decide +kernel, by decide +kernel, rfl⟩
  | oth t h1 h2 h => exact ⟨_, _, _, t, h1, h2, h⟩
end KX

namespace KX
open PySem PySem.Spec PyProof.Rows L2
section
variable {X : Cx} {C fI : Addr} {en qn : Str}
theorem pmk_errZ {a : Expr} {ta : TA} {p pos : Pos} {k : Nat} (T : PySem.ErrX.ErrTxt X.K X.mg en qn C fI) (hr : Room k X.A) (ha : PA X [a] ta) (hg : Gl X en := by rfl) (hdb : (en == ("__debug__" : Str)) = false := by decide)
    (he : starEach (a :: []) X.env = (false, eval a X.env) :: starEach [] X.env := by rfl) (hpl : (backTo pos (starEach [] X.env)).any (·.1) = false := by rfl) :
    L2.PMk X (.Call (.Name en p) [a] [] pos) (tMkErr C ta) := fun pins s σ H Q I h => by
  refine wpAny_mono (pmk_err T hr ha hg hdb he hpl pins s σ H Q I h) (fun u s' hu => ?_) fun _ _ x => x
  obtain ⟨a, oe, vs, sI, H', cls, d, h1, h2, h3, h4, h5, hz, h6⟩ := hu
  exact ⟨a, oe, vs, sI, H', cls, d, h1, h2, h3, h4, h5, hz.zc, h6⟩
theorem ps_raiseErrZ {a : Expr} {ta : TA} {W : WX} {p pos pos2 : Pos} {k : Nat} (hc : X.calm = true) (T : PySem.ErrX.ErrTxt X.K X.mg en qn C fI) (hr : Room k X.A) (tk : L2.Takes X W) (ha : PA X [a] ta) (hg : Gl X en := by rfl) (hdb : (en == ("__debug__" : Str)) = false := by decide)
    (he : starEach (a :: []) X.env = (false, eval a X.env) :: starEach [] X.env := by rfl) (hpl : (backTo pos (starEach [] X.env)).any (·.1) = false := by rfl) :
    PS X (.Raise (some (.Call (.Name en p) [a] [] pos)) none pos2) (tRaiseErr C W ta) := L2.ps_raise hc tk (pmk_errZ T hr ha hg hdb he hpl)
end
end KX

namespace KX
open PySem PySem.Spec PyProof.Rows L2 L2H LamX
/-! the law's own call under CG, with one table of code objects -/
section
variable {P : Program} {w : World} {K : PySem.W.Frag} {mg mb : Str → Option Value} {CX : CXT} {k : Nat} {fa a c t : Addr}
  {fd : FuncData} {x : Str} {sp : Sp} {s₁ : Shared} {vs : List Value}
/-- only the script and the table are tracked -/
structure OnlyT (H : Hp) (a t : Addr) : Prop where
  tab : H t = some (.tbl #[])
  who : ∀ b, H b ≠ none → b = a ∨ b = t
  frz : ∀ u, H a = some u → ∃ o xs, u = .frz o (.lst xs)
theorem OnlyT.off {H : Hp} {b : Addr} (O : OnlyT H a t) (h1 : b ≠ a) (h2 : b ≠ t) : H b = none :=
  Classical.byContradiction fun z => (O.who b z).elim h1 h2
theorem lawT_core {H : Hp}
    (KI : K.In s₁.heap) (hns : s₁.heap.Ns mainGlobals mg) (hb : s₁.heap.Ns builtinsNs mb)
    (hbb : ∀ x : Str, x ≠ "__name__" → mb x = bootBuiltins x) (hlim : s₁.heap.NoLimit) (hg : s₁.gens = #[])
    (ht : s₁.heap.get? t = some { cls := .none, data := .fields #[] }) (nt : K.lookup t = none) (C : PySem.W.CodeHd s₁.heap c t)
    (hbm : ∃ (bm : Addr) (ob : Obj), mg "__builtins__" = some (.ref bm) ∧ bm ≠ builtinsNs ∧ s₁.heap.get? bm = some ob ∧ ob.cls = .type "module" ∧ ob.dict = some builtinsNs ∧ ob.data = .plain)
    (ha : s₁.heap.get? a = some { cls := .type "list", data := .seq vs.toArray }) (hr : Room k callerA)
    (F : ∀ base : Heap, K.In base → base.Ns mainGlobals mg → TabB base mg c t → FnR P w K mg base CX (CG k) fa fd [x] sp)
    (hbind : ∀ (s : Shared) (u : Value), BindsTo s fd ⟨[u], []⟩ [(x, u)])
    (hCX : ∀ H e s', CX [] H s₁ (fun _ _ _ => False) e s' → False)
    (O : OnlyT H a t) (hS : sp [.ref a] H (fun v _ => v = .bl true) fun _ _ _ => False) (hok : HOk P w H s₁.heap)
    (hK : H a ≠ none → K.lookup a = none) :
    codeAny (model P w) callerA (.call (.ref fa) ⟨[.ref a], []⟩)
      (fun r s' => r = .ok (.ret (.bool true)) ∧ OldK s₁.heap s'.heap ∧ s'.os = s₁.os ∧ AllBare s'.gens) s₁ := by
  have sees : ∀ {b : Addr} {o : Obj}, s₁.heap.get? b = some o → (∀ vs n, o.data ≠ .seq vs n) → o.data ≠ .fields #[] →
      (hidT s₁.heap H).get? b = some o := fun {b o} e h1 h2 => hidT_get e (O.off (fun z => by
        subst z
        rw [ha] at e
        cases e
        exact h1 _ _ rfl) fun z => by
        subst z
        rw [ht] at e
        cases e
        exact h2 rfl)
  have nsH : ∀ {b : Addr} {m : Str → Option Value}, s₁.heap.Ns b m → (hidT s₁.heap H).Ns b m := fun {b m} n => by
    obtain ⟨o, es, ep, e, d, r⟩ := n
    exact ⟨o, es, ep, sees e (fun vs n z => by rw [d] at z; cases z) (fun z => by rw [d] at z; cases z), d, r⟩
  have KB : K.In (hidT s₁.heap H) := fun b o e => hidT_get (KI b o e) (Classical.byContradiction fun z => by
    rcases O.who b z with h | h
    · subst h
      rw [hK z] at e
      cases e
    · subst h
      rw [nt] at e
      cases e)
  have MB : Mod K mg (hidT s₁.heap H) := by
    obtain ⟨mc, h1, h2⟩ := hlim
    exact ⟨KB, nsH hns, ⟨mb, nsH hb, hbb⟩, ⟨mc, nsH h1, h2⟩⟩
  have TB : TabB (hidT s₁.heap H) mg c t := by
    refine ⟨?_, ?_, fun z => ?_⟩
    · obtain ⟨o, us, file, tf, flags, tg, inF, text, tt, e1, r1, r2, r3, rest⟩ := C
      refine ⟨o, us, file, tf, flags, tg, inF, text, tt, sees e1 (fun vs n z => ?_) (fun z => ?_), r1, r2, r3, rest⟩
      · rw [r2] at z
        cases z
      · rw [r2] at z
        cases z
        simp at r3
    · obtain ⟨bm, ob, b1, b2, b3, b4, b5, b6⟩ := hbm
      refine ⟨bm, ob, b1, b2, fun q => ?_, fun q => ?_, sees b3 (fun vs n z => by rw [b6] at z; cases z) (fun z => by rw [b6] at z; cases z), b4, b5, b6⟩
      · obtain ⟨o, es, ep, e, hd, _⟩ := hns
        rw [q, e] at b3
        cases b3
        rw [hd] at b6
        cases b6
      · rw [q, ht] at b3
        cases b3
        cases b6
    · obtain ⟨o, es, ep, e, hd, _⟩ := hns
      rw [z, ht] at e
      cases e
      cases hd
  have e0 : Env0 P w K mg (hidT s₁.heap H) callerA [] s₁ H :=
    ⟨rfl, MB, fun b o e => of_hidT e, Nat.le_of_eq (hidT_size _ _), trivial,
      fun b hb => absurd (show b ∈ ([] : List Addr) from hb) (by simp), hok, .of_eq hg⟩
  refine codeAny_mono ((F _ KB (nsH hns) TB).does callerA [] s₁ H ⟨[.ref a], []⟩ [.ref a] [.ref a] _ _ ⟨hr, rfl⟩ e0
    (hbind s₁ (.ref a)) (.cons rfl .nil) hS) fun r s' h => ?_
  match r, h with
  | .error e, h => exact (hCX H e s' h).elim
  | .ok (.ret u), h =>
    obtain ⟨v, H', os, bare, un, hok', r', q⟩ := h
    have q' : v = .bl true := q
    subst q'
    obtain rfl : u = Value.bool true := r'
    obtain ⟨more, hm⟩ : ∃ more : Array Value, s'.heap.get? t = some { cls := .none, data := .fields more } := by
      obtain ⟨more, z⟩ := un.tbls t #[] O.tab
      exact ⟨_, hok' t _ z⟩
    have other : ∀ b o, b ≠ t → s₁.heap.get? b = some o → s'.heap.get? b = some o := fun b o nb e => by
      cases q : H b with
      | none => exact un.keep b o e q (by intro z; exact absurd (show b ∈ ([] : List Addr) from z) (by simp)) (by simp)
      | some u =>
        have eb : b = a := (O.who b (by rw [q]; exact fun z => nomatch z)).resolve_right nb
        subst eb
        obtain ⟨ob, xs, rfl⟩ := O.frz _ q
        have e1 := (hok b _ q).1
        have e2 := (hok' b _ (un.frzs b ob _ q)).1
        rw [e] at e1
        cases e1
        exact e2
    refine ⟨rfl, ⟨fun b o e => ?_, fun b o e => ?_⟩, os, bare⟩
    · by_cases h : b = t
      · subst h
        rw [ht] at e
        cases e
        exact .inr (.inl ⟨(C.tab ht).isCodeTable, rfl, #[], more, rfl, by rw [Array.empty_append]; exact hm⟩)
      · exact .inl (other b o h e)
    · by_cases h : b = t
      · subst h
        exact ⟨_, hm⟩
      · exact ⟨o, other b o h e⟩
theorem law_callT {ns : List Int}
    (KI : K.In s₁.heap) (hns : s₁.heap.Ns mainGlobals mg) (hb : s₁.heap.Ns builtinsNs mb)
    (hbb : ∀ x : Str, x ≠ "__name__" → mb x = bootBuiltins x) (hlim : s₁.heap.NoLimit) (hg : s₁.gens = #[])
    (ht : s₁.heap.get? t = some { cls := .none, data := .fields #[] }) (nt : K.lookup t = none) (C : PySem.W.CodeHd s₁.heap c t)
    (hbm : ∃ (bm : Addr) (ob : Obj), mg "__builtins__" = some (.ref bm) ∧ bm ≠ builtinsNs ∧ s₁.heap.get? bm = some ob ∧ ob.cls = .type "module" ∧ ob.dict = some builtinsNs ∧ ob.data = .plain)
    (ha : s₁.heap.get? a = some { cls := .type "list", data := .seq vs.toArray }) (hi : IntsAre vs ns) (hl : ns.length ≤ sizeLine) (hr : Room k callerA)
    (F : ∀ base : Heap, K.In base → base.Ns mainGlobals mg → TabB base mg c t → FnR P w K mg base CX (CG k) fa fd [x] sp)
    (hbind : ∀ (s : Shared) (u : Value), BindsTo s fd ⟨[u], []⟩ [(x, u)])
    (hsp : ∀ H : Hp, H t = some (.tbl #[]) → SqL K H a (ns.map V.int) → sp [.ref a] H (fun v _ => v = .bl true) fun _ _ _ => False)
    (hCX : ∀ H e s', CX [] H s₁ (fun _ _ _ => False) e s' → False) :
    codeAny (model P w) callerA (.call (.ref fa) ⟨[.ref a], []⟩)
      (fun r s' => r = .ok (.ret (.bool true)) ∧ OldK s₁.heap s'.heap ∧ s'.os = s₁.os ∧ AllBare s'.gens) s₁ := by
  have rv := vals_ints hi
  have nat : a ≠ t := fun z => by
    rw [z, ht] at ha
    cases ha
  cases hk : K.lookup a with
  | some o =>
    have e := KI a o hk
    rw [ha] at e
    cases e
    let H : Hp := fun b => if b = t then some (.tbl #[]) else none
    have atT : H t = some (.tbl #[]) := if_pos rfl
    have off : ∀ {b}, b ≠ t → H b = none := fun h => if_neg h
    have S : SqL K H a (ns.map V.int) :=
      Or.inr ⟨_, vs.toArray, _, hk, rfl, rfl, rfl, by rw [List.size_toArray, hi.length]; exact hl, by simpa using rv⟩
    have O : OnlyT H a t := ⟨atT, fun b z => Or.inr (Classical.byContradiction fun h => z (off h)), fun u z => by rw [off nat] at z; cases z⟩
    refine lawT_core KI hns hb hbb hlim hg ht nt C hbm ha hr F hbind hCX O (hsp _ atT S) (fun b u z => ?_) fun z => absurd (off nat) z
    by_cases h : b = t
    · subst h
      rw [atT] at z
      cases z
      exact ht
    · rw [off h] at z
      cases z
  | none =>
    let H : Hp := fun b => if b = a then some (.frz { cls := .type "list", data := .seq vs.toArray } (.lst (ns.map V.int))) else if b = t then some (.tbl #[]) else none
    have atA : H a = some (.frz { cls := .type "list", data := .seq vs.toArray } (.lst (ns.map V.int))) := if_pos rfl
    have atT : H t = some (.tbl #[]) := (if_neg (Ne.symm nat)).trans (if_pos rfl)
    have off : ∀ {b}, b ≠ a → b ≠ t → H b = none := fun h h' => (if_neg h).trans (if_neg h')
    have S : SqL K H a (ns.map V.int) := Or.inl (Or.inr ⟨_, atA⟩)
    have O : OnlyT H a t := ⟨atT, fun b z => by
      by_cases h : b = a
      · exact Or.inl h
      · exact Or.inr (Classical.byContradiction fun h' => z (off h h')), fun u z => by rw [atA] at z; cases z; exact ⟨_, _, rfl⟩⟩
    refine lawT_core KI hns hb hbb hlim hg ht nt C hbm ha hr F hbind hCX O (hsp _ atT S) (fun b u z => ?_) fun _ => hk
    by_cases h : b = a
    · subst h
      rw [atA] at z
      cases z
      exact ⟨ha, by rw [List.length_map]; exact hl, vs, _, rv, ha⟩
    · by_cases h' : b = t
      · subst h'
        rw [atT] at z
        cases z
        exact ht
      · rw [off h h'] at z
        cases z
end
/-- what k_head leaves, by the law's promise under CG; t: the table of the law's code object -/
theorem walk_ofT {l : PySem.W.OpenLaw} {n k : Nat} {q : Program} {loose : List Str} {XP : (Str → Option Value) → Heap → Prop}
    {YP : World → Heap → Prop} {d : DefRec} {K : Params → PySem.W.Frag} {CX : CXT} {x : Str} {c t : Addr} {sp : PySem.W.Frag → Sp}
    (hn : l.most = some n) (hn2 : n ≤ sizeLine) (hdf : d.params.defaults = []) (hr : Room k callerA)
    (hY : ∀ (w : World) (h : Heap), YP w h → (K w.params).In h)
    (hT : ∀ (w : World) (h : Heap), YP w h → h.get? t = some { cls := .none, data := .fields #[] })
    (hcd : ∀ w : World, PySem.W.codeHdIn (K w.params) c t = true) (nt : ∀ w : World, (K w.params).lookup t = none)
    (F : ∀ (w : World) (mg : Str → Option Value) (fa : Addr) (h : Heap), (K w.params).In h → h.Ns mainGlobals mg →
      mg d.name = some (.ref fa) → ∃ fd : FuncData, (∀ (s : Shared) (u : Value), BindsTo s fd ⟨[u], []⟩ [(x, u)]) ∧
        ∀ base : Heap, (K w.params).In base → base.Ns mainGlobals mg → TabB base mg c t →
          FnR l.prog w (K w.params) mg base CX (CG k) fa fd [x] (sp (K w.params)))
    (hsp : ∀ (K : PySem.W.Frag) (H : Hp) (a : Addr) (ns : List Int), ns.length ≤ n → H t = some (.tbl #[]) → SqL K H a (ns.map V.int) →
      sp K [.ref a] H (fun v _ => v = .bl true) fun _ _ _ => False)
    (hCX : ∀ (H : Hp) (s : Shared) (e : Value) (s' : Shared), CX [] H s (fun _ _ _ => False) e s' → False) :
    PySem.W.WalkO q loose XP YP l.row.toRowW d [] (fun f vs => PySem.call f vs) := by
  refine Att.attach_call hn hdf fun w s₀ s₁ mg mb fa o pm cd doc a vs ns G Y ho hd hcd' hmg hobj hints hlen hg => ?_
  have KI := hY w _ Y
  obtain ⟨fd, hb, hF⟩ := F w mg fa _ KI G.T.g hmg
  exact law_callT KI G.T.g G.T.b G.T.builtins G.T.nolimit hg (hT w _ Y) (nt w) (PySem.W.codeHd_of_K KI (hcd w)) G.T.bmain hobj hints (Nat.le_trans hlen hn2) hr hF hb
    (fun H hH hS => hsp (K w.params) H a ns hlen hH hS) fun H e s' => hCX H s₁ e s'
end KX

namespace KX
open PySem PySem.Spec PyProof.Rows L2
/-! lists or tuples walked -/
theorem PI.or {X : Cx} {tg l : Expr} {w1 w2 : TI} (h1 : PI X tg l w1) (h2 : PI X tg l w2) :
    PI X tg l (fun σ H R => w1 σ H R ∨ w2 σ H R) :=
  ⟨fun pins s σ H R I h => h.elim (h1.run pins s σ H R I) (h2.run pins s σ H R I)⟩
theorem CallR.or {X : Cx} {f : Value} {r1 r2 : List V → Hp → VK → Prop} (h1 : CallR X f r1) (h2 : CallR X f r2) :
    CallR X f (fun xs H Q => r1 xs H Q ∨ r2 xs H Q) :=
  fun pins s σ H xs us Q I r h => h.elim (h1 pins s σ H xs us Q I r) (h2 pins s σ H xs us Q I r)
/-! sorted of a tuple of ints -/
section
variable {prog : Program} {w : World} {A : Around} {s : Shared} {E : Value → Shared → Prop}
theorem collect_tup {l : Addr} {vs : List Value} {n : Nat} {dd : Option Addr} {sl : Array (Option Value)}
    {Q : List Value → Shared → Prop}
    (hl : s.heap.get? l = some ⟨.type "tuple", dd, .seq vs.toArray n, sl⟩) (hz : vs.length ≤ sizeLine)
    (h : Q vs { s with heap := ((s.heap.push (seqObj "list" #[] 0)).update
      s.heap.objs.size (Obj.mapSeq (· ++ vs.toArray))) }) :
    wpAny (model prog w) A (collect (.ref l)) Q E s := by
  unfold collect
  apply wpAny_bind
  apply wpAny_runValue
  refine codeAny_builtin
    entry_proto_collect' ?_
  show wpAny _ _ (do
    again (.builtin "list.__iadd__" ⟨[← newList [], .ref l], []⟩)) _ _ s
  apply wpAny_bind
  refine wpAny_newList
    (wpAny_pure ⟨Code.quiet_builtin _ (by decide +kernel), ?_⟩)
  refine codeAny_builtin
    entry_list_iadd' ?_
  show wpAny _ _
    (Builtin.List.listExtendWith (.ref s.heap.objs.size) (.ref l) (.ref s.heap.objs.size)) _ _
    { s with heap := s.heap.push (seqObj "list" #[] 0) }
  unfold Builtin.List.listExtendWith
  have hl' : (s.heap.push (seqObj "list" #[] 0)).get? l = some ⟨.type "tuple", dd, .seq vs.toArray n, sl⟩ :=
    Heap.get?_push_of_some _ hl
  apply wpAny_bind
  refine wpAny_typeOf (T := "tuple")
    ⟨_, hl', rfl⟩ ?_
  have ht : (Value.type "tuple" == Value.type "tuple") = true := by rfl
  rw [if_pos (by rw [ht]; simp)]
  apply wpAny_bind
  refine listItems_at hl' rfl ?_
  apply wpAny_bind
  have hn : (s.heap.push (seqObj "list" #[] 0)).get? s.heap.objs.size = some (seqObj "list" #[] 0) :=
    Heap.get?_push_size _ rfl
  refine listItems_at (xs := #[]) (n := 0) hn rfl ?_
  rw [if_neg (by simp)]
  apply wpAny_bind
  refine listUpdate_at (xs := #[]) (n := 0) hn rfl ?_ (Nat.zero_le _)
    (by
      show (#[] ++ vs.toArray).size ≤ sizeLine + 1
      simp only [Array.size_append, List.size_toArray, List.length_nil]
      omega)
  apply wpAny_pure
  show wpAny (model prog w) A (do
      match (← load s.heap.objs.size).data with
      | .seq xs _ => pure xs.toList
      | _ => unsupported "internal:collect") Q E
    { s with heap := ((s.heap.push (seqObj "list" #[] 0)).update
      s.heap.objs.size (Obj.mapSeq (· ++ vs.toArray))) }
  apply wpAny_bind
  refine wpAny_load (get?_update_seq hn _) ?_
  show wpAny _ _ (pure ((#[] : Array Value) ++ vs.toArray).toList) Q E _
  have e : ((#[] : Array Value) ++ vs.toArray).toList = vs := by simp
  rw [e]
  exact wpAny_pure h
theorem sorted_tup {l : Addr} {vs : List Value} {ns : List Int} {n : Nat} {dd : Option Addr} {sl : Array (Option Value)}
    {Q : Value → Shared → Prop}
    (hl : s.heap.get? l = some ⟨.type "tuple", dd, .seq vs.toArray n, sl⟩) (hI : IntsAre vs ns) (h64 : vs.length < 64)
    (h : ∀ (out : Array Value) (ns' : List Int), IntsAre out.toList ns' → ns'.Perm ns → ns'.Pairwise (· ≤ ·) →
      Q (.ref (s.heap.objs.size + 1)) { s with heap := sortedAll s.heap vs out }) :
    wpAny (model prog w) A (call (.builtin "sorted") [.ref l]) Q E s := by
  refine Calls.call_function_entry
    kind_sorted plain_sorted entry_sorted (args_sorted1 _) ?_
  unfold Builtin.«sorted»
  refine wpAny_bind (m := checkCount "sorted" 1 1 _)
    (wpAny_pure ?_)
  apply wpAny_bind
  refine collect_tup hl (Nat.le_of_lt (Nat.lt_trans h64 (by decide))) ?_
  apply wpAny_bind
  refine wpAny_newList ?_ (hsz := Nat.le_of_lt (Nat.lt_trans h64 (by decide)))
  have hs2 : ((s.heap.push (seqObj "list" #[] 0)).update s.heap.objs.size
      (Obj.mapSeq (· ++ vs.toArray))).objs.size = s.heap.objs.size + 1 := by
    rw [Heap.size_update]
    exact Heap.size_push ..
  have ho : (((s.heap.push (seqObj "list" #[] 0)).update s.heap.objs.size
      (Obj.mapSeq (· ++ vs.toArray))).push (seqObj "list" vs.toArray 0)).get? (s.heap.objs.size + 1) =
      some (seqObj "list" vs.toArray 0) := by
    rw [← hs2]
    exact Heap.get?_push_size _ rfl
  show wpAny _ _ _ _ _
    { s with heap := (((s.heap.push (seqObj "list" #[] 0)).update s.heap.objs.size
      (Obj.mapSeq (· ++ vs.toArray))).push (seqObj "list" vs.toArray 0)) }
  rw [hs2]
  apply wpAny_bind
  apply wpAny_holding
  refine wpAny_call_entry slot_list_sort ⟨_, ho, rfl⟩ entry_list_sort ?_ (args_list_sort _)
  refine list_sort_tree ho hI h64 fun out ns' a1 a2 a3 => ⟨_, rfl, ?_⟩
  exact wpAny_pure ⟨_, rfl, h out ns' a1 a2 a3⟩
end
def rSortT (K : PySem.W.Frag) : List V → Hp → VK → Prop := fun vs H Q =>
  ∃ (a : Addr) (ns : List Int), vs = [V.ref a] ∧ SqT K H a (ns.map V.int) ∧ ns.length < 64 ∧
    ∀ (ns' : List Int) (p : Addr), ns'.Perm ns → ns'.Pairwise (· ≤ ·) → H p = none →
      Q (.ref p) (upd H p (.lst (ns'.map V.int)))
theorem cr_sortT {X : Cx} : CallR X (.builtin "sorted") (rSortT X.K) := by
  intro pins s σ H vs us Q I r h
  obtain ⟨a, ns, rfl, hs, h64, q⟩ := h
  obtain ⟨its, rv, ⟨⟨cls, dd, data, sl⟩, ho, hc, n, hd⟩, _⟩ := I.tuple hs
  simp only at hc hd
  subst hc hd
  rw [Vals.ref1 r]
  have hi := rv.ints
  refine sorted_tup ho hi (by rw [hi.length]; exact h64) fun out ns' h1 h2 h3 => ?_
  obtain ⟨ep, he⟩ := sortedAll_at s.heap its out
  have hlen : (ns'.map V.int).length ≤ sizeLine := by
    rw [List.length_map, h2.length_eq]
    exact Nat.le_of_lt (Nat.lt_trans h64 (by decide))
  refine ⟨.ref _, upd H (s.heap.objs.size + 1) (.lst (ns'.map V.int)), ?_, rfl,
    q ns' _ h2 h3 (I.hok.fresh (Nat.le_succ _))⟩
  exact I.laid (t' := s.toks) (fun _ _ => sortedAll_old) (Nat.le_succ _)
    ⟨hlen, out.toList, ep, vals_of_ints h1, he⟩
/-! t.count(k) of a tuple of ints -/
def rCntT (K : PySem.W.Frag) : V → List V → Hp → VK → Prop := fun x xs H Q =>
  ∃ (p : Addr) (ns : List Int) (k : Int), x = .ref p ∧ xs = [.int k] ∧ SqT K H p (ns.map V.int) ∧
    Q (.int (ns.count k : Nat)) H
theorem mt_tcount {X : Cx} : MtR X "tuple.count" (rCntT X.K) := by
  intro pins s σ H x xs v us Q I rx rxs h
  obtain ⟨p, ns, k, rfl, rfl, hs, q⟩ := h
  cases rx
  obtain ⟨u, rfl, ru⟩ := rxs.one
  obtain ⟨t, rfl⟩ := ru
  obtain ⟨its, rv, ⟨⟨cls, dd, data, sl⟩, ho, hc, n, hd⟩, _⟩ := I.tuple hs
  simp only at hc hd
  subst hc hd
  have hi := ints_of_vals rv
  refine call_meets PySem.F.slot_tuple_count ⟨_, ho, rfl⟩ PySem.F.entry_tuple_count
    (PySem.F.args_tuple_count_2 _ _) (SeqAt.tuple_countAt p its.toArray n dd sl (.int k t) (eqk k)) ⟨ho, ?_, ?_⟩
  · exact fun y hy => (eqk_gives hi y (by simpa using hy)).at _ _
  · have ec : its.toArray.toList.countP (eqk k) = ns.count k := eqk_count hi
    refine ⟨.int (ns.count k : Nat), H, I.tok _, ⟨s.toks, ?_⟩, q⟩
    show Value.int ((its.toArray.toList.countP (eqk k) : Nat) : Int) s.toks = _
    rw [ec]
end KX

namespace KX
open PySem PySem.Spec PyProof.Rows L2
/-! a tuple, frozen or not -/
abbrev Tup (H : Hp) (a : Addr) (xs : List V) : Prop := Rd H a (.tup xs)
theorem Tup.of {H : Hp} {a : Addr} {xs : List V} (h : H a = some (.tup xs)) : Tup H a xs := Or.inl h
theorem Tup.sq {K : PySem.W.Frag} {H : Hp} {a : Addr} {xs : List V} (h : Tup H a xs) : SqT K H a xs := Or.inl h
theorem Tup.ty {K : PySem.W.Frag} {H : Hp} {a : Addr} {xs : List V} (h : Tup H a xs) : TyX K H (.ref a) (.type "tuple") := by
  rcases h with h | ⟨o, h⟩
  · exact .base (.tup h)
  · exact .fTuple h
theorem Tup.same {H H' : Hp} {a : Addr} {xs : List V} (h : Tup H a xs) (s : Same H H') : Tup H' a xs := by
  rcases h with h | ⟨o, h⟩
  · exact Or.inl (s _ _ h)
  · exact Or.inr ⟨o, s _ _ h⟩
/-- a tuple whose object is known: without a dict -/
def TupF (H : Hp) (a : Addr) (xs : List V) : Prop := ∃ o : Obj, H a = some (.frz o (.tup xs)) ∧ o.cls = .type "tuple" ∧ o.dict = none
theorem TupF.tup {H : Hp} {a : Addr} {xs : List V} (h : TupF H a xs) : Tup H a xs := by
  obtain ⟨o, h, _⟩ := h
  exact Or.inr ⟨o, h⟩
theorem TupF.same {H H' : Hp} {a : Addr} {xs : List V} (h : TupF H a xs) (s : Same H H') : TupF H' a xs := by
  obtain ⟨o, h, z⟩ := h
  exact ⟨o, s _ _ h, z⟩
section
variable {X : Cx}
/-- tuple(l), l a list: the new tuple's object is known -/
def kTupF (K : PySem.W.Frag) (x : V) (H : Hp) (Q : VK) : Prop := ∃ p xs, x = .ref p ∧ SqL K H p xs ∧
  ∀ q (o : Obj), H q = none → o.cls = .type "tuple" → o.dict = none → Q (.ref q) (upd H q (.frz o (.tup xs)))
theorem pe_tupleF {a : Expr} {ta : TE} {p pos : Pos} (hg : Gl X "tuple") (hm : X.mg "tuple" = none) (ha : PE X a ta)
    (na : starEach [a] X.env = (false, eval a X.env) :: starEach [] X.env := by rfl) :
    PE X (.Call (.Name "tuple" p) [a] [] pos) (tThen ta (kTupF X.K)) := by
  refine ⟨fun pins s σ H Q I h => Call_ (ld_blt I hg hm boot_tuple (PyProof.Rows.callWith_type1 (one_arg ha I h (fun v s2 x H2 I2 r q => ?_) na) na))⟩
  obtain ⟨l, xs, rfl, hs, hq⟩ := q
  obtain rfl : v = .ref l := r
  obtain ⟨its, rv, pl, hz⟩ := I2.list hs
  have hsz : its.toArray.size ≤ sizeLine := by
    rw [List.size_toArray, ← rv.length]
    exact hz
  refine call_tuple_list pl.isList (fun h' hk => ?_) hsz
  have J : Inv X pins σ H2 { s2 with heap := h' } := I2.kept (t' := s2.toks) hk
  have nq : H2 h'.objs.size = none := J.hok.fresh (Nat.le_refl _)
  refine ⟨.ref h'.objs.size, _, J.laid (t' := s2.toks) (fun b o e => Heap.get?_push_of_some _ e) (Nat.le_refl _) ?_, rfl,
    hq h'.objs.size { cls := .type "tuple", data := .seq its.toArray } nq rfl rfl⟩
  exact ⟨Heap.get?_push_size _ rfl, hz, its, rv, IsTup.new _ _⟩
/-- a method of such a tuple, called -/
def tBMF (r : V → List V → Hp → VK → Prop) (to : TE) (t : TA) : TE := fun σ H Q =>
  to σ H fun x H1 => (∃ a xs, x = .ref a ∧ TupF H1 a xs) ∧ t σ H1 fun ys H2 => r x ys H2 Q
theorem pe_bmF {o e : Expr} {to : TE} {t : TA} {name : Str} {apos cpos : Pos} {id : String} {r : V → List V → Hp → VK → Prop}
    (slot : Slot "tuple" name id) (hty : typeOf (.builtin id) = pure (.type "method_descriptor")) (hm : MtR X id r) (ho : PE X o to) (ha : PA X [e] t)
    (hbase : attributeBase o name X.env (eval o X.env) = eval o X.env := by rfl)
    (hfew : ((backTo cpos (starEach [e] X.env)).all (fun x => !x.1) && (backToKw cpos (keywordEach [] X.env)).all (fun x => x.1.isSome)
      && decide ([e].length + ([] : List Keyword).length + (if ([] : List Keyword).isEmpty then 0 else 1) < 30)) = true := by rfl)
    (hline : (apos.endLine == cpos.line) = true := by rfl)
    (hs : starEach [e] X.env = (false, eval e X.env) :: starEach [] X.env := by rfl) (hplain : (backTo cpos (starEach [] X.env)).any (·.1) = false := by rfl) :
    PE X (.Call (.Attribute o name apos) [e] [] cpos) (tBMF r to t) := by
  constructor
  intro pins s σ H Q I h
  refine wpAny_Call_method_late hbase hfew hline rfl (thn (ho.run pins s σ H _ I h) fun v s1 hh => ?_)
  obtain ⟨x, H1, I1, r1, ⟨a, xs, rfl, ob, hob, hc, hd⟩, q1⟩ := hh
  obtain rfl : v = .ref a := r1
  have hget : s1.heap.get? a = some ob := (I1.hok a _ hob).1
  refine ⟨"tuple", id, PySem.F.plainAttrs_tuple, slot, hty, ⟨ob, hget, hc⟩, fun b z => by cases z; exact ⟨ob, hget, hd⟩, ?_⟩
  have hA := ha.run cpos pins s1 σ H1 _ I1 q1
  rw [hs] at hA ⊢
  refine Calls.callWith_builtin (by
    show (false || (backTo cpos (starEach [] X.env)).any (·.1)) = false
    rw [hplain] <;> rfl) (Calls.evalArgs_plain ?_)
  refine thn hA fun us s2 hz => ?_
  obtain ⟨vs, H2, I2, r2, q2⟩ := hz
  exact hm pins s2 σ H2 (.ref a) vs (.ref a) us Q I2 rfl r2 q2
end
end KX

namespace KX
open PySem PySem.Spec PyProof.Rows L2
/-! t + u and t[lo:hi] of tuples, by what they hold -/
theorem Same.fresh {H : Hp} {a : Addr} {o : HO} (n : H a = none) : Same H (upd H a o) := fun b u h => by
  rw [upd_ne (fun z => by rw [z, n] at h; cases h)]
  exact h
def rCatW : R2 := fun x y H Q => ∃ a b xs ys, x = .ref a ∧ y = .ref b ∧ Tup H a xs ∧ Tup H b ys ∧ xs.length + ys.length ≤ sizeLine ∧
  ∀ H' p, Same H H' → Tup H' p (xs ++ ys) → Q (.ref p) H'
theorem op_catW {X : Cx} : OpR X (binaryOp .Add) rCatW := by
  intro pins s σ H x y v u Q I rx ry h
  obtain ⟨a, b, xs, ys, e1, e2, ha, hb, hz, q⟩ := h
  refine op_catA pins s σ H x y v u Q I rx ry ⟨a, b, xs, ys, e1, e2, ha.sq, hb.sq, hz, fun e => ?_, fun _ e => ?_, fun _ _ p hp => ?_⟩
  · subst e
    exact q H b (Same.refl H) hb
  · subst e
    exact q H a (Same.refl H) (by rw [List.append_nil]; exact ha)
  · exact q _ p (Same.fresh hp) (Tup.of upd_same)
def rSlW : V → Option Int → Option Int → Hp → VK → Prop := fun x lo hi H Q => ∃ a xs, x = .ref a ∧ Tup H a xs ∧
  ∀ H' p, Same H H' → Tup H' p (cutV xs lo hi) → Q (.ref p) H'
theorem sl_tupW {X : Cx} : SlR X rSlW := by
  intro pins s σ H x v vl vu lo hi sl Q I rx hs pl pu h
  obtain ⟨a, xs, e1, ha, q⟩ := h
  refine sl_tupA pins s σ H x v vl vu lo hi sl Q I rx hs pl pu ⟨a, xs, e1, ha.sq, fun e => ?_, fun _ p hp => q _ p (Same.fresh hp) (Tup.of upd_same)⟩
  refine q H a (Same.refl H) ?_
  have z : cutV xs lo hi = xs := by
    unfold cutV
    rw [e.1, e.2]
    simp
  rw [z]
  exact ha
theorem cut_take (xs : List V) {i : Int} (h0 : 0 ≤ i) (h1 : i ≤ xs.length) : cutV xs none (some i) = xs.take i.toNat := by
  obtain ⟨n, rfl⟩ := Int.eq_ofNat_of_zero_le h0
  unfold cutV
  rw [HT.sIx_none, HT.sIx_nat]
  have : min n xs.length = n := by omega
  rw [this]
  simp
theorem cut_drop (xs : List V) {i : Int} (h0 : 0 ≤ i) (h1 : i ≤ xs.length) : cutV xs (some i) none = xs.drop i.toNat := by
  obtain ⟨n, rfl⟩ := Int.eq_ofNat_of_zero_le h0
  unfold cutV
  rw [HT.sIx_none, HT.sIx_nat]
  have : min n xs.length = n := by omega
  rw [this]
  have e : (xs.drop n).take (xs.length - n) = xs.drop n := List.take_of_length_le (by simp)
  simpa using e
end KX

namespace KX
open PySem PySem.Spec PyProof.Rows L2
/-! own == and != of instances, the other side of any class that is not below -/
theorem slot_objNe : Slot "object" "__ne__" "object.__ne__" :=
  Slot.of (T := "object") (name := "__ne__") (owner := "object") (n := "__ne__") (by rw [typeLookup_type, builtinLookup_eq_fast]; kernel_rfl) (by decide +kernel) (by decide +kernel) (by decide +kernel)
    (.inl (by decide +kernel)) (by rw [isSubtype_type]; kernel_rfl)
section
variable {prog : Program} {w : World} {A : Around} {E : Value → Shared → Prop} {s : Shared} {K : PySem.W.Frag} {x C L f : Addr} {ox : Obj} {od : Option Obj} {b tb : Value}
theorem objNe_K (X : K.In s.heap) (I : PySem.W.InstAt s.heap x ox C od) (hu : A.units < cLine) (hs : PySem.W.findIn K (.ref C) "__eq__" = some (some (.ref f))) (hf : PySem.W.isFn K (.ref f) = true) {Q : Fin → Shared → Prop}
    (hcall : wpAny (model prog w) A (call (.ref f) [.ref x, b]) (fun v s' => ∃ c, v = .bool c ∧ Q (.done (.ret (.bool (!c)))) s') E s) :
    wpAny (model prog w) A (Builtin.«object.__ne__» ⟨[.ref x, b], []⟩) Q E s := by
  unfold Builtin.«object.__ne__»
  repeat (first
    | with_reducible refine wpAny_cRoomFor hu ?_
    | (refine wpAny_bind (m := callSpecialIfBound? (.ref x) (Str.ofString "__eq__") [b])
        (PySem.W.ifBound_K X I hs hf (wpAny_mono hcall (fun r s' hr => by
          obtain ⟨c, rfl, hq⟩ := hr
          repeat (first | exact hq | exact wpAny_pure hq | exact wpAny_truthy_bool hq | (refine wpAny_bind (m := truthy (.bool _)) (wpAny_truthy_bool ?_)) | wp_step)) fun _ _ e => e)))
    | wp_step)
theorem ne_K {Q : Value → Shared → Prop} (hu : A.units + 1 < cLine) (X : K.In s.heap) (I : PySem.W.InstAt s.heap x ox C od) (hb : PySem.W.Looks (model prog w) s.heap (typeOf b) tb) (hn : PySem.W.notFirst K C tb = true)
    (hne : PySem.W.findIn K (.ref C) "__ne__" = some (some (.builtin "object.__ne__"))) (hm : PySem.W.mroIn K C (.type "object") = some true)
    (hs : PySem.W.findIn K (.ref C) "__eq__" = some (some (.ref f))) (hf : PySem.W.isFn K (.ref f) = true)
    (hcall : wpAny (model prog w) A.in1 (call (.ref f) [.ref x, b]) (fun v s' => ∃ c, v = .bool c ∧ Q (.bool (!c)) s') E s) :
    wpAny (model prog w) A (richCompare .NotEq (.ref x) b) Q E s := by
  have sub : PySem.W.Looks (model prog w) s.heap (isInstance (.ref x) (.type "object")) true := I.type.andThen (PySem.W.looks_mroIn X hm)
  have one : wpAny (model prog w) A (tryCompare (.ref x) "__ne__" b) (fun r s' => ∃ v, r = some v ∧ Q v s') E s := by
    unfold tryCompare
    refine wpAny_bind ?_
    simp only [callSpecialIfBound?, bindSpecialIfBound?]
    refine wpAny_holding (wpAny_bind (wpAny_bind (wpAny_bind (I.type.here ((PySem.W.looks_findIn X hne).here ?_)))))
    have fin : ∀ Q2 : Option Value → Shared → Prop, (∀ c s', Q (.bool (!c)) s' → Q2 (some (.bool (!c))) s') → wpAny (model prog w) A (call (.builtin "object.__ne__") ([.ref x] ++ [b]) >>= fun v => pure (some v)) Q2 E s := fun Q2 hQ2 => by
      refine wpAny_bind (wpAny_call (codeAny_call_builtin slot_objNe.plain F.cmpEntry_ne (PySem.W.check_slot F.cmpKind_ne F.cmpSplit_ne sub (F.cmpArgs_ne _ _) ?_)))
      refine objNe_K (A := A.in1) X I (Nat.lt_of_le_of_lt (by simp [Around.in1]) hu) hs hf (wpAny_mono hcall (fun v s' hv => ?_) fun _ _ e => e)
      obtain ⟨c, rfl, hq⟩ := hv
      exact ⟨c, rfl, wpAny_pure (hQ2 c s' hq)⟩
    refine wpAny_bind (wpAny_askSetting (wpAny_ite ?_))
    split
    · refine wpAny_bind ?_
      rw [slot_objNe.bind]
      exact wpAny_pure (wpAny_pure (fin _ fun c s' hq => wpAny_pure ⟨_, rfl, hq⟩))
    · refine wpAny_tryCatch (wpAny_bind ?_)
      rw [slot_objNe.bind]
      exact wpAny_pure (wpAny_pure (fin _ fun c s' hq => wpAny_pure ⟨_, rfl, hq⟩))
  unfold richCompare
  simp only [oneThing_ref]
  refine wpAny_holding (wpAny_bind (wpAny_cRoomFor (Nat.lt_of_succ_lt hu) ?_))
  refine wpAny_bind (I.type.here (wpAny_bind (hb.here ?_)))
  split
  · rename_i q
    have e : PySem.W.subIn K tb (.ref C) = some false := by
      rcases Bool.or_eq_true_iff.mp hn with e | e
      · rw [beq_iff_eq.mp e] at q; simp at q
      · exact beq_iff_eq.mp e
    refine wpAny_bind ((PySem.W.looks_subIn X e).here ?_)
    simp only [Bool.false_eq_true, if_false]
    refine wpAny_bind (wpAny_mono one (fun r s' z => ?_) fun _ _ e => e)
    obtain ⟨v, rfl, hq⟩ := z
    exact wpAny_pure hq
  · refine wpAny_bind (wpAny_pure ?_)
    simp only [Bool.false_eq_true, if_false]
    refine wpAny_bind (wpAny_mono one (fun r s' z => ?_) fun _ _ e => e)
    obtain ⟨v, rfl, hq⟩ := z
    exact wpAny_pure hq
end
/-- x == y, x != y: x an instance of the class at C with an own == that answers a bool -/
def rOwnC (K : PySem.W.Frag) (C : Addr) (sp : Sp) (neg : Bool) : R2 := fun x y H Q => ∃ a dx fs tb, x = .ref a ∧ H a = some (.ins C dx fs) ∧ TyX K H y tb ∧ PySem.W.notFirst K C tb = true ∧
  sp [x, y] H (fun z H' => ∃ c, z = .bl c ∧ Q (.bl (neg != c)) H') E0
/-- what of the class must be known -/
structure OwnC (K : PySem.W.Frag) (C f : Addr) : Prop where
  eq : PySem.W.findIn K (.ref C) "__eq__" = some (some (.ref f))
  fn : PySem.W.isFn K (.ref f) = true
  ne : PySem.W.findIn K (.ref C) "__ne__" = some (some (.builtin "object.__ne__"))
  top : PySem.W.mroIn K C (.type "object") = some true
section
variable {X : Cx} {C f : Addr} {fd : FuncData} {ps : List Str} {sp : Sp} {n : Nat}
theorem own_run (F : FnOk X.prog X.w X.K X.mg X.base CX0 n f fd ps sp) (hb : Binds X.K fd ps []) {A : Around} (hr : Room n A) (hA : A.frames = X.A.frames) {pins : List (Addr × Obj)} {s : Shared} {σ : L2.St} {H : Hp} {a : Addr} {y : V} {u : Value} {Q : VK}
    (I : Inv X pins σ H s) (ry : RelV y u) (h : sp [.ref a, y] H Q E0) : wpAny (model X.prog X.w) A (call (.ref f) [.ref a, u]) (EP X pins σ Q) X.xe s := by
  have e0 : Env0 X.prog X.w X.K X.mg X.base A X.stack s H := by
    have e := I.env0
    exact ⟨by rw [hA]; exact e.frames, e.mod, e.bs, e.bsz, e.funs, e.frf, e.hok, e.bare⟩
  have hl := F.len _ _ _ _ h
  have r2 : Vals [V.ref a, y] [Value.ref a, u] := .cons rfl (.cons ry .nil)
  refine wpAny_call (codeAny_mono (F.run A X.stack s H ⟨[.ref a, u], []⟩ [.ref a, u] [.ref a, y] _ E0 hr e0 (by
    have := hb s [.ref a, u] I.kIn (by simpa using hl)
    simpa using this) r2 h) fun r s' hq => ?_)
  cases r with
  | error e => exact (pass0 pins σ H s e s' I hq)
  | ok fl =>
    cases fl with
    | ret w => exact I.after hq
    | next => exact False.elim hq
    | brk => exact False.elim hq
    | cont => exact False.elim hq
theorem op_ownEq (O : OwnC X.K C f) (F : FnOk X.prog X.w X.K X.mg X.base CX0 n f fd ps sp) (hb : Binds X.K fd ps []) (hr : Room n X.A) : OpR X (compareOp .Eq) (rOwnC X.K C sp false) := by
  intro pins s σ H x y v u Q I rx ry h
  obtain ⟨a, dx, fs, tb, rfl, ha, ty, hn, q⟩ := h
  cases rx
  obtain ⟨mA, J, _⟩ := ins_get I.hok ha
  obtain ⟨od, J, _⟩ := J.look
  obtain ⟨m, hF⟩ := I.fr
  obtain ⟨P, Z, p, _⟩ := kit_of I ry ty
  show wpAny (model X.prog X.w) X.A (richCompare .Eq (.ref a) u) (EP X pins σ Q) X.xe s
  refine PySem.W.cmp_K (op := .Eq) (tb := tb) hr.units0 hF I.ok.mod.kin J (Z.ty _ _ I.kIn p) hn O.eq O.fn ?_
  refine wpAny_mono (own_run F hb hr rfl I ry q) (fun r s' z => ?_) fun _ _ x => x
  obtain ⟨z, H', I', rz, c, e, q'⟩ := z
  subst e
  obtain rfl : r = Value.bool c := rz
  have e : (false != c) = c := by cases c <;> rfl
  rw [e] at q'
  exact ⟨.bl c, H', I', rfl, q'⟩
theorem op_ownNe (O : OwnC X.K C f) (F : FnOk X.prog X.w X.K X.mg X.base CX0 n f fd ps sp) (hb : Binds X.K fd ps []) (hr : Room (n + 1) X.A) : OpR X (compareOp .NotEq) (rOwnC X.K C sp true) := by
  intro pins s σ H x y v u Q I rx ry h
  obtain ⟨a, dx, fs, tb, rfl, ha, ty, hn, q⟩ := h
  cases rx
  obtain ⟨mA, J, _⟩ := ins_get I.hok ha
  obtain ⟨od, J, _⟩ := J.look
  obtain ⟨P, Z, p, _⟩ := kit_of I ry ty
  show wpAny (model X.prog X.w) X.A (richCompare .NotEq (.ref a) u) (EP X pins σ Q) X.xe s
  refine ne_K (by have := hr.units; omega) I.kIn J (Z.ty _ _ I.kIn p) hn O.ne O.top O.eq O.fn ?_
  refine wpAny_mono (own_run F hb hr.in1 rfl I ry q) (fun r s' z => ?_) fun _ _ x => x
  obtain ⟨z, H', I', rz, c, e, q'⟩ := z
  subst e
  obtain rfl : r = Value.bool c := rz
  have e : (true != c) = !c := by cases c <;> rfl
  rw [e] at q'
  exact ⟨c, rfl, .bl (!c), H', I', rfl, q'⟩
end
end KX

/-! enumerate(t) of a tuple -/
namespace PySem
open Sem (wp)
theorem meets_enumerate_new1B {v : Value} {o : Obj} {H : Heap → Prop} (B : Begins v o H) :
    Meets (Builtin.«enumerate.__new__» ⟨[.type "enumerate", v], []⟩) (fun _ R s => H s.heap ∧
      R (.ok (.ret (.ref (s.heap.push o).objs.size))) { s with heap := (s.heap.push o).push { cls := .type "enumerate", data := .fields #[.none, .bool false, .ref s.heap.objs.size, rawInt 0, .none, .none] } }) :=
  .of_wp fun prog w A R s h => by
    obtain ⟨hp, g, d, tk, os⟩ := s; obtain ⟨h1, h⟩ := h
    have hsub := sub_enumerate
    have q1 : ∀ {A' : Around} {E : Value → Shared → Prop} {Q : Value → Shared → Prop}, Q (.ref hp.objs.size) ⟨hp.push o, g, d, tk, os⟩ → wpAny (model prog w) A' (pyIter v) Q E ⟨hp, g, d, tk, os⟩ :=
      fun q => B.iter prog w _ _ ⟨hp, g, d, tk, os⟩ _ h1 q
    wp_walk using q1
    refine wpAny_stack_any fun st => wpAny_pure ?_
    split
    · rename_i c _ _ _ _ _
      cases (c == Value.type "enumerate")
      · wp_walk using q1
        exact ⟨_, rfl, h⟩
      · wp_walk using q1
        exact ⟨_, rfl, h⟩
    · wp_walk using q1
      exact ⟨_, rfl, h⟩
section
variable {prog : Program} {w : World} {A : Around} {E : Value → Shared → Prop} {s : Shared}
/-- enumerate(v): its two new cells -/
theorem enum_begins1 {v : Value} {o : Obj} {H : Heap → Prop} {Q : Value → Shared → Prop} (B : Begins v o H) (h1 : H s.heap)
    (h : ∀ h', IsEnum h' (s.heap.objs.size + 1) s.heap.objs.size 0 .none → h'.get? s.heap.objs.size = some o → h'.objs.size = s.heap.objs.size + 2 →
      (∀ b o, s.heap.get? b = some o → h'.get? b = some o) → Q (.ref (s.heap.objs.size + 1)) { s with heap := h' }) :
    wpAny (model prog w) A (call (.type "enumerate") [v]) Q E s := by
  refine callType_new F.called_enumerate (by decide) (F.typeCall_enumerate_1 _) (F.newCall_enumerate_1 _) (fun obj => F.args_object_init_2 obj _) F.entry_enumerate_new
    (meets_enumerate_new1B B) ⟨h1, ?_⟩
  have hz : (s.heap.push o).objs.size = s.heap.objs.size + 1 := Heap.size_push ..
  show _ ∧ _
  rw [hz]
  have he : IsEnum ((s.heap.push o).push { cls := .type "enumerate", data := .fields #[.none, .bool false, .ref s.heap.objs.size, rawInt 0, .none, .none] }) (s.heap.objs.size + 1) s.heap.objs.size 0 .none := by
    have := Heap.get?_push_size (s.heap.push o) (o := { cls := .type "enumerate", data := .fields #[.none, .bool false, .ref s.heap.objs.size, rawInt 0, .none, .none] }) rfl
    rw [hz] at this; exact this
  refine ⟨⟨_, he, rfl⟩, h _ he (Heap.get?_push_of_some _ (Heap.get?_push_size _ B.free)) (by rw [Heap.size_push, hz]) fun b o x => Heap.get?_push_of_some _ (Heap.get?_push_of_some _ x)⟩
end
end PySem
namespace KX
open PySem PySem.Spec PyProof.Rows L2
/-- the tuple at a as it stands at each turn, each item in a new pair -/
def Itn (K : PySem.W.Frag) (a : Addr) : It :=
  ⟨fun i H => ∃ (xs : List V) (x : V), SqT K H a xs ∧ xs[i]? = some x, fun i H v H' => ∃ T x, v = .ref T ∧ H T = none ∧ H' = upd H T (.tup [.int (i : Nat), x]) ∧ ∀ xs, SqT K H a xs → xs[i]? = some x, fun i H => ∃ xs : List V, SqT K H a xs ∧ xs.length ≤ i⟩
theorem apart_tup {h : Heap} {a it : Addr} {its : Array Value} {i : Nat} (p : h.IsTuple a its) (q : h.IsTupleIter it a i) : a ≠ it := fun z => by
  obtain ⟨o, ho, hc, hd⟩ := q
  obtain ⟨o2, ho2, hc2, _⟩ := p
  rw [z, ho] at ho2
  cases ho2
  rw [hc] at hc2
  simp at hc2
theorem turn_enumT {P : Program} {w : World} {K : PySem.W.Frag} {elts : List Expr} {kk : Nat} {tpos : Pos} (a e it : Addr) :
    Turn P w K (.Tuple elts kk tpos) (Itn K a) [e, it] e (fun i h => (∃ old, IsEnum h e it ((i : Nat) : Int) old) ∧ h.IsTupleIter it a i ∧ e ≠ it) where
  mem := by simp
  obj := fun i h st b hb => by
    obtain ⟨⟨old, he⟩, ⟨o, ho, hc, hd⟩, _⟩ := st
    have e' : b = e ∨ b = it := by simpa using hb
    rcases e' with z | z
    · rw [z]; exact ⟨_, he, fun v q => nomatch q⟩
    · rw [z]; exact ⟨o, ho, fun v q => by rw [hd] at q; cases q⟩
  keep := fun i h h' st k => let ⟨⟨old, he⟩, hi, hne⟩ := st; ⟨⟨old, k e (by simp) _ he⟩, hi.at fun o q => k it (by simp) o q, hne⟩
  item := by
    intro X hP hw hK hc i pins s σ H E I hf st hg
    subst hP hw hK
    obtain ⟨⟨old, he⟩, hit, hne⟩ := st
    obtain ⟨xs, x, hq, hx⟩ := hg
    obtain ⟨its, rv, p, hz⟩ := I.tuple hq
    have p : s.heap.IsTuple a its.toArray := p
    have hai := apart_tup p hit
    obtain ⟨u, hu, ru⟩ := rv.get hx
    have hel : e < s.heap.objs.size := Heap.lt_size he
    have hil : it < s.heap.objs.size := by obtain ⟨_, q, _⟩ := hit; exact Heap.lt_size q
    have hea : e ≠ a := fun z => by
      obtain ⟨o2, ho2, hc2, _⟩ := p
      have he' : s.heap.get? e = some _ := he
      rw [z, ho2] at he'
      cases he'
      simp at hc2
    refine wpAny_pyNext_enum_itemD (Draws.tuple (A := X.A.in1) (I.ok.hd hc) it a hai its.toArray) he ⟨hit, p⟩ (by
      obtain ⟨hl, _⟩ := List.getElem?_eq_some_iff.mp hu
      simpa using hl) hne (by simp [hne, hea]) fun x' h' tk hx' ho st' hT hsz hk => ?_
    have hxe : x' = u := by
      have e1 : its[i]? = some x' := by simpa using hx'
      rw [hu] at e1
      exact (Option.some.inj e1).symm
    subst hxe
    refine ⟨_, rfl, wpAny_letOwnedTupleGo_enum (s := { s with heap := h', toks := tk + 1 }) ho fun h'' he' sb => ?_⟩
    have hT2 : h''.get? s.heap.objs.size = some { cls := .type "tuple", data := .seq #[.int i tk, x'] } := (sb.2 _ (Nat.ne_of_gt hel)).trans hT
    have new : ObjOk X.prog X.w (upd H s.heap.objs.size (.tup [.int (i : Nat), x])) h'' s.heap.objs.size (.tup [.int (i : Nat), x]) :=
      ⟨by show 2 ≤ sizeLine; decide, [.int i tk, x'], .cons ⟨_, rfl⟩ (.cons ru .nil), ⟨_, hT2, rfl, _, rfl⟩⟩
    have I1 : Inv X pins σ (upd H s.heap.objs.size (.tup [.int (i : Nat), x])) { s with heap := h'', toks := tk + 1 } :=
      I.turnedNew (ch := [e, it]) (fun b ob hb q => (sb.2 b (fun z => hb (by simp [z]))).trans (hk b ob (fun z => hb (by simp [z])) (fun z => hb (by simp [z])) q)) hf (Nat.le_refl _) new
    refine ⟨.ref s.heap.objs.size, _, I1, rfl, ⟨_, x, rfl, I.hok.fresh (Nat.le_refl _), rfl, fun ys hy => by rw [I.tuple_inj hy hq]; exact hx⟩, ⟨⟨x', ?_⟩, st'.1.at fun o q => (sb.2 it (Ne.symm hne)).trans q, hne⟩, fun b hb => ?_⟩
    · have e1 : ((i + 1 : Nat) : Int) = (i : Int) + 1 := by omega
      rw [e1]; exact he'
    · have hb' : b < s.heap.objs.size := by
        have e' : b = e ∨ b = it := by simpa using hb
        rcases e' with z | z
        · rw [z]; exact hel
        · rw [z]; exact hil
      rw [upd_ne (Nat.ne_of_lt hb')]
      exact (hf b hb).1
  done := by
    intro X hP hw hK hc i pins s σ H E I hf st hg
    subst hP hw hK
    obtain ⟨⟨old, he⟩, hit, hne⟩ := st
    obtain ⟨xs, hq, hx⟩ := hg
    obtain ⟨its, rv, p, hz⟩ := I.tuple hq
    have p : s.heap.IsTuple a its.toArray := p
    obtain ⟨f0, f1, f2, f3, f4, f5⟩ := hf it (by simp)
    have hl := rv.length
    have hT : s.TypeIs (.ref e) "enumerate" := ⟨_, he, rfl⟩
    unfold pyNext
    refine wpAny_bind (wpAny_attempt (wpAny_callSpecial?_slot (name := Str.ofString "__next__") hT F.slot_enumerate_next
      (wpAny_call_entry F.slot_enumerate_next hT F.entry_enumerate_next ?_ (F.args_enumerate_next_1 _))))
    show wpAny _ _ (field (.ref e) 2 >>= _) _ _ _
    refine wpAny_bind (wpAny_field he rfl (x := .ref it) rfl ?_)
    refine wpAny_bind (wpAny_nextOf_tuple_end (I.ok.hd hc) hit p (by simp; omega) fun h' x he' hx' => ?_)
    obtain ⟨o, ho, hc⟩ := hx'
    refine wpAny_bind (wpAny_isInstance (T := "StopIteration") (b := true) ⟨o, ho, hc⟩ isSubtype_stop ?_)
    exact wpAny_pure ⟨rfl, I.turned (t' := s.toks) (fun b o hb q => he' b o hb q) f0 f1 f3 f4 f5⟩
  self := fun A i s Q E st h => let ⟨⟨_, he⟩, _⟩ := st; wpAny_pyIter_enum he h
def iEnumT (K : PySem.W.Frag) (ta : TA) : TI := fun σ H R => ta σ H fun vs H1 => ∃ a xs, vs = [.ref a] ∧ SqT K H1 a xs ∧ R (Itn K a) H1
theorem pi_enumT {X : Cx} {e : Expr} {ta : TA} {p pos tpos : Pos} {elts : List Expr} {kk : Nat} (hg : Gl X "enumerate") (hm : X.mg "enumerate" = none) (ha : PA X [e] ta) (hs : starEach [e] X.env = [(false, eval e X.env)] := by rfl) :
    PI X (.Tuple elts kk tpos) (.Call (.Name "enumerate" p) [e] [] pos) (iEnumT X.K ta) := by
  refine ⟨fun pins s σ H R I h => ?_⟩
  refine Call_ (ld_blt I hg hm boot_enumerate (PyProof.Rows.callWith_type1 (thn (ha.run pos pins s σ H _ I h) fun us s1 ⟨vs, H1, I1, r1, q1⟩ => ?_) hs rfl))
  obtain ⟨a, xs, ex, hq, q⟩ := q1
  subst ex
  cases r1 with
  | cons r rr =>
    cases rr
    cases r
    obtain ⟨its, rv, p', hz⟩ := I1.tuple hq
    have p' : s1.heap.IsTuple a its.toArray := p'
    refine enum_begins1 (begins_tuple a its.toArray) p' fun h' he hit hsz hk => wpAny_pyIter_enum he ?_
    have I2 : Inv X pins σ H1 { s1 with heap := h' } := I1.kept (t' := s1.toks) hk
    refine ⟨s1.heap.objs.size + 1, [s1.heap.objs.size + 1, s1.heap.objs.size], _, _, H1, rfl, I2, turn_enumT a (s1.heap.objs.size + 1) s1.heap.objs.size, ⟨⟨.none, he⟩, ⟨_, hit, rfl, rfl⟩, Nat.succ_ne_self _⟩, fun b hb => ?_, q⟩
    have e' : b = s1.heap.objs.size + 1 ∨ b = s1.heap.objs.size := by simpa using hb
    have hle : s1.heap.objs.size ≤ b := by
      rcases e' with z | z
      · rw [z]; exact Nat.le_add_right _ _
      · rw [z]; exact Nat.le_refl _
    exact I1.fpOk hle (I1.hok.fresh hle)
theorem walk_enumT {K : PySem.W.Frag} {a : Addr} {xs : List V} : Walk (Itn K a) xs.length (fun H => SqT K H a xs) (YPair (fun i => some (.int (i : Nat))) (fun i => xs[i]?)) := by
  refine ⟨fun i _ hi q => ⟨xs, xs[i], q, by simp [hi]⟩, fun _ q => ⟨xs, q, Nat.le_refl _⟩, fun i H v H' _ q y => ?_⟩
  obtain ⟨T, x, h1, h2, h3, h4⟩ := y
  exact ⟨T, .int (i : Nat), x, h1, h2, h3, rfl, h4 xs q⟩
end KX

namespace KX
open PySem PySem.Spec PyProof.Rows L2
/-! readings, one step at a time -/
/-- a new object: any address that was free, the heap behind it -/
def NewO (H : Hp) (o : HO) (Q : VK) : Prop := ∀ p H', H p = none → Same H H' → H' p = some o → Q (.ref p) H'
theorem new_of {H : Hp} {o : HO} {Q : VK} (h : NewO H o Q) : ∀ p, H p = none → Q (.ref p) (upd H p o) := fun p hp => h p _ hp (Same.fresh hp) upd_same
section
variable {σ : L2.St} {H : Hp} {D : Ends} {Q : VK} {QT : Bool → Hp → Prop} {QA : List V → Hp → Prop} {QS : L2.St → Hp → Prop}
theorem rd_seq {t u : TS} (h : t { D with nx := u D } σ H) : tSeq t u D σ H := h
theorem rd_nx {a b c d} (h : a σ H) : ({ nx := a, rt := b, bk := c, ct := d } : Ends).nx σ H := h
theorem rd_rt {a b c d} {v : V} (h : b v H) : ({ nx := a, rt := b, bk := c, ct := d } : Ends).rt v H := h
theorem rd_ct {a b c d} (h : d σ H) : ({ nx := a, rt := b, bk := c, ct := d } : Ends).ct σ H := h
theorem rd_bk {a b c d} (h : c σ H) : ({ nx := a, rt := b, bk := c, ct := d } : Ends).bk σ H := h
theorem rd_next (h : D.nx σ H) : tNext D σ H := h
theorem rd_cont (h : D.ct σ H) : tCont D σ H := h
theorem rd_brk (h : D.bk σ H) : tBreak D σ H := h
theorem rd_drop {te : TE} (h : te σ H fun _ H1 => D.nx σ H1) : tDrop te D σ H := h
theorem rd_ret {te : TE} (h : te σ H D.rt) : tRet te D σ H := h
theorem rd_retN (h : D.rt .non H) : tRetN D σ H := h
theorem rd_ifs {c : TT} {t u : TS} (h : c σ H fun b H1 => if b = true then t D σ H1 else u D σ H1) : tIfS c t u D σ H := h
theorem rd_asg {te : TE} {g : TG} (h : te σ H fun x H1 => g x σ H1 D.nx) : tAsg te g D σ H := h
theorem rd_par {i j : Nat} {ta : TA} (h : ta σ H fun vs H1 => ∃ v w, vs = [v, w] ∧ D.nx ((σ.set i (some v)).set j (some w)) H1) : tPar i j ta D σ H := h
theorem rd_par2 {f : V → V → Prop} {v w : V} (h : f v w) : ∃ x y, [v, w] = [x, y] ∧ f x y := ⟨v, w, rfl, h⟩
theorem rd_par3 {i j l : Nat} {ta : TA} (h : ta σ H fun vs H1 => ∃ u v w, vs = [u, v, w] ∧ D.nx (((σ.set i (some u)).set j (some v)).set l (some w)) H1) : tPar3 i j l ta D σ H := h
theorem rd_par33 {f : V → V → V → Prop} {u v w : V} (h : f u v w) : ∃ z x y, [u, v, w] = [z, x, y] ∧ f z x y := ⟨u, v, w, rfl, h⟩
theorem rd_name {i : Nat} {v : V} (h : QS (σ.set i (some v)) H) : gName i v σ H QS := h
theorem rd_sub {to ti : TE} {t : TSet} {v : V} (h : to σ H fun o H1 => ti σ H1 fun i H2 => t o i v H2 fun H3 => QS σ H3) : gSub to ti t v σ H QS := h
theorem rd_gcons {t : TG} {u : TGs} {v : V} {vs : List V} (h : t v σ H fun σ' H' => u vs σ' H' QS) : gCons t u (v :: vs) σ H QS := ⟨v, vs, rfl, h⟩
theorem rd_gnil (h : QS σ H) : gNil [] σ H QS := ⟨rfl, h⟩
theorem rd_gtup {K : PySem.W.Frag} {n : Nat} {t : TGs} {a : Addr} {xs : List V} (ha : Tup H a xs) (hn : xs.length = n) (h : t xs σ H QS) : gTup K n t (.ref a) σ H QS := ⟨a, xs, rfl, ha.sq, hn, h⟩
theorem rd_glst {K : PySem.W.Frag} {n : Nat} {t : TGs} {a : Addr} {xs : List V} (ha : H a = some (.lst xs)) (hn : xs.length = n) (h : t xs σ H QS) : gLst K n t (.ref a) σ H QS := ⟨a, xs, rfl, SqL.of ha, hn, h⟩
theorem rd_var {i : Nat} {v : V} (e : σ[i]? = some (some v)) (h : Q v H) : tVar i σ H Q := ⟨v, e, h⟩
theorem rd_c {v : V} (h : Q v H) : tC v σ H Q := h
theorem rd_op {r : R2} {ta tb : TE} (h : ta σ H fun x H1 => tb σ H1 fun y H2 => r x y H2 Q) : tOp r ta tb σ H Q := h
theorem rd_un {r : V → Hp → VK → Prop} {ta : TE} (h : ta σ H fun x H1 => r x H1 Q) : tUn r ta σ H Q := h
theorem rd_tB {t : TE} (h : t σ H fun x H1 => ∃ c, x = .bl c ∧ QT c H1) : tB t σ H QT := h
theorem rd_test {t : TE} (h : t σ H fun x H1 => ∃ c, x = .bl c ∧ QT c H1) : tTest t σ H QT := h
theorem rd_bl {f : Bool → Prop} {b : Bool} (h : f b) : ∃ c, V.bl b = .bl c ∧ f c := ⟨b, rfl, h⟩
theorem rd_and {t u : TT} (h : t σ H fun c H1 => if c = true then u σ H1 QT else QT false H1) : tAnd t u σ H QT := h
theorem rd_or {t u : TT} (h : t σ H fun c H1 => if c = true then QT true H1 else u σ H1 QT) : tOr t u σ H QT := h
theorem rd_not {t : TT} (h : t σ H fun c H1 => QT (!c) H1) : tNot t σ H QT := h
theorem rd_yes (h : QT true H) : tYes σ H QT := h
theorem rd_andV {ta tb : TE} (h : ta σ H fun x H1 => ∃ c, x = .bl c ∧ if c = true then tb σ H1 Q else Q (.bl false) H1) : tAndV ta tb σ H Q := h
theorem rd_orV {ta tb : TE} (h : ta σ H fun x H1 => ∃ c, x = .bl c ∧ if c = true then Q (.bl true) H1 else tb σ H1 Q) : tOrV ta tb σ H Q := h
theorem rd_notV {ta : TE} (h : ta σ H fun x H1 => ∃ c, x = .bl c ∧ Q (.bl (!c)) H1) : tNotV ta σ H Q := h
theorem rd_if {t : TT} {ta tb : TE} (h : t σ H fun c H1 => if c = true then ta σ H1 Q else tb σ H1 Q) : tIf t ta tb σ H Q := h
theorem rd_isN {ta : TE} (h : ta σ H fun x H1 => Q (.bl (decide (x = .non))) H1) : tIsN ta σ H Q := h
theorem rd_iT {A B : Prop} (h : A) : if true = true then A else B := by rw [if_pos rfl]; exact h
theorem rd_iF {A B : Prop} (h : B) : if false = true then A else B := by rw [if_neg (by decide)]; exact h
theorem rd_nil (h : QA [] H) : tNil σ H QA := h
theorem rd_cons {ta : TE} {tr : TA} (h : ta σ H fun x H1 => tr σ H1 fun xs H2 => QA (x :: xs) H2) : tCons ta tr σ H QA := h
/-- behind a display's items -/
def TupTail (Q : VK) (xs : List V) (H1 : Hp) : Prop := xs.length ≤ sizeLine ∧ ∀ p, H1 p = none → Q (.ref p) (upd H1 p (.tup xs))
def LstTail (Q : VK) (xs : List V) (H1 : Hp) : Prop := xs.length ≤ sizeLine ∧ ∀ p, H1 p = none → Q (.ref p) (upd H1 p (.lst xs))
theorem rd_tup {t : TA} (h : t σ H (TupTail Q)) : tTup t σ H Q := h
theorem rd_lst {t : TA} (h : t σ H (LstTail Q)) : tLst t σ H Q := h
theorem rd_tupT {xs : List V} (hl : xs.length ≤ 1000 := by decide) (h : NewO H (.tup xs) Q) : TupTail Q xs H := ⟨Nat.le_trans hl (by decide), new_of h⟩
theorem rd_lstT {xs : List V} (hl : xs.length ≤ 1000 := by decide) (h : NewO H (.lst xs) Q) : LstTail Q xs H := ⟨Nat.le_trans hl (by decide), new_of h⟩
theorem rd_call {sp : Sp} {dvs : List V} {E : XK} {t : TA} (h : t σ H fun vs H1 => sp (vs ++ dvs) H1 Q E) : tCall sp dvs E t σ H Q := h
theorem rd_cb {r : List V → Hp → VK → Prop} {t : TA} (h : t σ H fun vs H1 => r vs H1 Q) : tCB r t σ H Q := h
theorem rd_bm {K : PySem.W.Frag} {T : String} {r : V → List V → Hp → VK → Prop} {to : TE} {t : TA} (h : to σ H fun x H1 => tyV K T x H1 ∧ t σ H1 fun xs H2 => r x xs H2 Q) : tBM K T r to t σ H Q := h
theorem rd_bm0 {K : PySem.W.Frag} {T : String} {r : V → List V → Hp → VK → Prop} {to : TE} (h : to σ H fun x H1 => tyV K T x H1 ∧ r x [] H1 Q) : tBM0 K T r to σ H Q := h
theorem rd_sl {r : V → Option Int → Option Int → Hp → VK → Prop} {te : TE} {tl th : TO} (h : te σ H fun x H1 => tl σ H1 fun l H2 => th σ H2 fun u H3 => r x l u H3 Q) : tSl r te tl th σ H Q := h
theorem rd_noP {Q : Option Int → Hp → Prop} (h : Q none H) : tNoPart σ H Q := h
theorem rd_part {t : TE} {Q : Option Int → Hp → Prop} (h : t σ H fun x H1 => ∃ i, x = .int i ∧ Q (some i) H1) : tPart t σ H Q := h
theorem rd_int {f : Int → Prop} {i : Int} (h : f i) : ∃ j, V.int i = .int j ∧ f j := ⟨i, rfl, h⟩
theorem rd_int1 {f : Int → Prop} {i : Int} (h : f i) : ∃ j, [V.int i] = [.int j] ∧ f j := ⟨i, rfl, h⟩
theorem rd_fld {K : PySem.W.Frag} {ta : TE} {f : Str} (h : ta σ H fun x H1 => ∃ a C dx fs v, x = .ref a ∧ H1 a = some (.ins C dx fs) ∧ Cls K C ∧ NoAttr K C f ∧ fs.lookup f = some v ∧ Q v H1) : tFld K ta f σ H Q := h
theorem rd_ilist {K : PySem.W.Frag} {tl : TE} {R : It → Hp → Prop} (h : tl σ H fun x H1 => ∃ a, x = .ref a ∧ (∃ xs, SqL K H1 a xs) ∧ R (Itl K a) H1) : iList K tl σ H R := h
theorem rd_itup {K : PySem.W.Frag} {tl : TE} {R : It → Hp → Prop} (h : tl σ H fun x H1 => ∃ a, x = .ref a ∧ (∃ xs, SqT K H1 a xs) ∧ R (Itt K a) H1) : iTup K tl σ H R := h
theorem rd_rng1 {ta : TA} {R : It → Hp → Prop} (h : ta σ H fun vs H1 => ∃ j : Int, vs = [.int j] ∧ -(2 ^ 62) ≤ j ∧ j < 2 ^ 62 ∧ R (Itr 0 j.toNat) H1) : iRng1 ta σ H R := h
theorem rd_enum {K : PySem.W.Frag} {ta : TA} {R : It → Hp → Prop} (h : ta σ H fun vs H1 => ∃ a xs, vs = [.ref a] ∧ SqL K H1 a xs ∧ R (Ite K a) H1) : iEnum K ta σ H R := h
theorem rd_enumT {K : PySem.W.Frag} {ta : TA} {R : It → Hp → Prop} (h : ta σ H fun vs H1 => ∃ a xs, vs = [.ref a] ∧ SqT K H1 a xs ∧ R (Itn K a) H1) : iEnumT K ta σ H R := h
theorem rd_rng1v {j : Int} {n : Nat} {R : It → Prop} (hj : j = n) (hn : n < 1000000) (h : R (Itr 0 n)) : ∃ k : Int, [V.int j] = [.int k] ∧ -(2 ^ 62) ≤ k ∧ k < 2 ^ 62 ∧ R (Itr 0 k.toNat) := by
  subst hj
  exact ⟨_, rfl, by omega, by omega, h⟩
/-! operators by values -/
theorem rd_rI0 {g : Int → Int → V} {i j : Int} (h : Q (g i j) H) : rI0 g (.int i) (.int j) H Q := ⟨i, j, rfl, rfl, h⟩
theorem rd_rI {C : Int → Int → Prop} {g : Int → Int → V} {i j : Int} (hc : C i j) (h : Q (g i j) H) : rI C g (.int i) (.int j) H Q := ⟨i, j, rfl, rfl, hc, h⟩
theorem rd_rU {g : Int → V} {i : Int} (h : Q (g i) H) : rU g (.int i) H Q := ⟨i, rfl, h⟩
theorem rd_eqI {i j : Int} (h : Q (.bl (decide (i = j))) H) : rEq (.int i) (.int j) H Q := by
  refine ⟨rfl, ?_⟩
  have e : decide (V.int i = V.int j) = decide (i = j) := by by_cases z : i = j <;> simp [z]
  rw [e]; exact h
theorem rd_neI {i j : Int} (h : Q (.bl (!decide (i = j))) H) : rNe (.int i) (.int j) H Q := by
  refine ⟨rfl, ?_⟩
  have e : decide (V.int i = V.int j) = decide (i = j) := by by_cases z : i = j <;> simp [z]
  rw [e]; exact h
theorem rd_ixL {K : PySem.W.Frag} {p : Addr} {xs : List V} {i : Int} {v : V} (ha : H p = some (.lst xs)) (e : atI xs i = some v) (h : Q v H) : rIxL K (.ref p) (.int i) H Q := ⟨p, xs, i, v, rfl, rfl, SqL.of ha, e, h⟩
theorem rd_ixT {K : PySem.W.Frag} {p : Addr} {xs : List V} {i : Int} {v : V} (ha : Tup H p xs) (e : atI xs i = some v) (h : Q v H) : rIxT K (.ref p) (.int i) H Q := ⟨p, xs, i, v, rfl, rfl, ha.sq, e, h⟩
theorem rd_cat {a b : Addr} {xs ys : List V} (ha : H a = some (.lst xs)) (hb : H b = some (.lst ys)) (hl : xs.length + ys.length ≤ 1000000) (h : NewO H (.lst (xs ++ ys)) Q) : rCat (.ref a) (.ref b) H Q :=
  ⟨a, b, xs, ys, rfl, rfl, ha, hb, Nat.le_trans hl (by decide), new_of h⟩
theorem rd_slL {K : PySem.W.Frag} {a : Addr} {xs : List V} {lo hi : Option Int} (ha : H a = some (.lst xs)) (h : NewO H (.lst (cutV xs lo hi)) Q) : rSlL K (.ref a) lo hi H Q := ⟨a, xs, rfl, SqL.of ha, new_of h⟩
theorem rd_app {l : Addr} {xs : List V} {y : V} (ha : H l = some (.lst xs)) (hl : xs.length < 1000000) (h : Q .non (upd H l (.lst (xs ++ [y])))) : rAppend (.ref l) [y] H Q :=
  ⟨l, xs, y, rfl, rfl, ha, Nat.lt_of_lt_of_le hl (by decide), h⟩
theorem rd_lenL {X : Cx} {p : Addr} {ys : List V} (ha : H p = some (.lst ys)) (h : Q (.int ys.length) H) : ∃ p' ys', [V.ref p] = [.ref p'] ∧ (SqL X.K H p' ys' ∨ SqT X.K H p' ys') ∧ Q (.int ys'.length) H := ⟨p, ys, rfl, .inl (SqL.of ha), h⟩
theorem rd_then {ta : TE} {k : V → Hp → VK → Prop} (h : ta σ H fun x H1 => k x H1 Q) : tThen ta k σ H Q := h
theorem rd_raise {C : Addr} {W : WX} {ta : TA} (h : ta σ H fun vs H1 => ∃ v, vs = [v] ∧ ∀ d, H1 d = none → W (.ref C) (some d) σ (upd H1 d (.xd [(("at" : Str), v)]))) : tRaiseErr C W ta D σ H := h
theorem rd_one {f : V → Prop} {v : V} (h : f v) : ∃ w, [v] = [w] ∧ f w := ⟨v, rfl, h⟩
theorem rd_sfld {K : PySem.W.Frag} {ta tv : TE} {f : Str} (h : tv σ H fun y H1 => ta σ H1 fun x H2 => ∃ a C dx fs, x = .ref a ∧ H2 a = some (.ins C dx fs) ∧ Cls K C ∧ NoAttr K C f ∧ fs.length < 1000 ∧ D.nx σ (upd H2 a (.ins C dx (putF f y fs)))) : sFld K ta tv f D σ H := h
end
end KX

namespace KX
open PySem PySem.Spec PyProof.Rows L2 L2H LamX
/-! the law's own call under CG, with some tables of code objects -/
section
variable {P : Program} {w : World} {K : PySem.W.Frag} {mg mb : Str → Option Value} {CX : CXT} {k : Nat} {fa a : Addr} {ts : List (Addr × Addr)}
  {fd : FuncData} {x : Str} {sp : Sp} {s₁ : Shared} {vs : List Value}
/-- only the script and the tables are tracked -/
structure OnlyS (H : Hp) (a : Addr) (ts : List (Addr × Addr)) : Prop where
  tab : ∀ p ∈ ts, H p.2 = some (.tbl #[])
  who : ∀ b, H b ≠ none → b = a ∨ ∃ p ∈ ts, b = p.2
  frz : ∀ u, H a = some u → ∃ o xs, u = .frz o (.lst xs)
theorem OnlyS.off {H : Hp} {b : Addr} (O : OnlyS H a ts) (h1 : b ≠ a) (h2 : ∀ p ∈ ts, b ≠ p.2) : H b = none :=
  Classical.byContradiction fun z => (O.who b z).elim h1 fun ⟨p, hp, e⟩ => h2 p hp e
theorem lawS_core {H : Hp}
    (KI : K.In s₁.heap) (hns : s₁.heap.Ns mainGlobals mg) (hb : s₁.heap.Ns builtinsNs mb)
    (hbb : ∀ x : Str, x ≠ "__name__" → mb x = bootBuiltins x) (hlim : s₁.heap.NoLimit) (hg : s₁.gens = #[])
    (ht : ∀ p ∈ ts, s₁.heap.get? p.2 = some { cls := .none, data := .fields #[] }) (nt : ∀ p ∈ ts, K.lookup p.2 = none) (C : ∀ p ∈ ts, PySem.W.CodeHd s₁.heap p.1 p.2)
    (hbm : ∃ (bm : Addr) (ob : Obj), mg "__builtins__" = some (.ref bm) ∧ bm ≠ builtinsNs ∧ s₁.heap.get? bm = some ob ∧ ob.cls = .type "module" ∧ ob.dict = some builtinsNs ∧ ob.data = .plain)
    (ha : s₁.heap.get? a = some { cls := .type "list", data := .seq vs.toArray }) (hr : Room k callerA)
    (F : ∀ base : Heap, K.In base → base.Ns mainGlobals mg → (∀ p ∈ ts, TabB base mg p.1 p.2) → FnR P w K mg base CX (CG k) fa fd [x] sp)
    (hbind : ∀ (s : Shared) (u : Value), BindsTo s fd ⟨[u], []⟩ [(x, u)])
    (hCX : ∀ H e s', CX [] H s₁ (fun _ _ _ => False) e s' → False)
    (O : OnlyS H a ts) (hS : sp [.ref a] H (fun v _ => v = .bl true) fun _ _ _ => False) (hok : HOk P w H s₁.heap)
    (hK : H a ≠ none → K.lookup a = none) :
    codeAny (model P w) callerA (.call (.ref fa) ⟨[.ref a], []⟩)
      (fun r s' => r = .ok (.ret (.bool true)) ∧ OldK s₁.heap s'.heap ∧ s'.os = s₁.os ∧ AllBare s'.gens) s₁ := by
  have sees : ∀ {b : Addr} {o : Obj}, s₁.heap.get? b = some o → (∀ vs n, o.data ≠ .seq vs n) → o.data ≠ .fields #[] →
      (hidT s₁.heap H).get? b = some o := fun {b o} e h1 h2 => hidT_get e (O.off (fun z => by
        subst z
        rw [ha] at e
        cases e
        exact h1 _ _ rfl) fun p hp z => by
        subst z
        rw [ht p hp] at e
        cases e
        exact h2 rfl)
  have nsH : ∀ {b : Addr} {m : Str → Option Value}, s₁.heap.Ns b m → (hidT s₁.heap H).Ns b m := fun {b m} n => by
    obtain ⟨o, es, ep, e, d, r⟩ := n
    exact ⟨o, es, ep, sees e (fun vs n z => by rw [d] at z; cases z) (fun z => by rw [d] at z; cases z), d, r⟩
  have KB : K.In (hidT s₁.heap H) := fun b o e => hidT_get (KI b o e) (Classical.byContradiction fun z => by
    rcases O.who b z with h | ⟨p, hp, h⟩
    · subst h
      rw [hK z] at e
      cases e
    · subst h
      rw [nt p hp] at e
      cases e)
  have MB : Mod K mg (hidT s₁.heap H) := by
    obtain ⟨mc, h1, h2⟩ := hlim
    exact ⟨KB, nsH hns, ⟨mb, nsH hb, hbb⟩, ⟨mc, nsH h1, h2⟩⟩
  have TB : ∀ p ∈ ts, TabB (hidT s₁.heap H) mg p.1 p.2 := fun p hp => by
    refine ⟨?_, ?_, fun z => ?_⟩
    · obtain ⟨o, us, file, tf, flags, tg, inF, text, tt, e1, r1, r2, r3, rest⟩ := C p hp
      refine ⟨o, us, file, tf, flags, tg, inF, text, tt, sees e1 (fun vs n z => ?_) (fun z => ?_), r1, r2, r3, rest⟩
      · rw [r2] at z
        cases z
      · rw [r2] at z
        cases z
        simp at r3
    · obtain ⟨bm, ob, b1, b2, b3, b4, b5, b6⟩ := hbm
      refine ⟨bm, ob, b1, b2, fun q => ?_, fun q => ?_, sees b3 (fun vs n z => by rw [b6] at z; cases z) (fun z => by rw [b6] at z; cases z), b4, b5, b6⟩
      · obtain ⟨o, es, ep, e, hd, _⟩ := hns
        rw [q, e] at b3
        cases b3
        rw [hd] at b6
        cases b6
      · rw [q, ht p hp] at b3
        cases b3
        cases b6
    · obtain ⟨o, es, ep, e, hd, _⟩ := hns
      rw [z, ht p hp] at e
      cases e
      cases hd
  have e0 : Env0 P w K mg (hidT s₁.heap H) callerA [] s₁ H :=
    ⟨rfl, MB, fun b o e => of_hidT e, Nat.le_of_eq (hidT_size _ _), trivial,
      fun b hb => absurd (show b ∈ ([] : List Addr) from hb) (by simp), hok, .of_eq hg⟩
  refine codeAny_mono ((F _ KB (nsH hns) TB).does callerA [] s₁ H ⟨[.ref a], []⟩ [.ref a] [.ref a] _ _ ⟨hr, rfl⟩ e0
    (hbind s₁ (.ref a)) (.cons rfl .nil) hS) fun r s' h => ?_
  match r, h with
  | .error e, h => exact (hCX H e s' h).elim
  | .ok (.ret u), h =>
    obtain ⟨v, H', os, bare, un, hok', r', q⟩ := h
    have q' : v = .bl true := q
    subst q'
    obtain rfl : u = Value.bool true := r'
    have hm : ∀ p ∈ ts, ∃ more : Array Value, s'.heap.get? p.2 = some { cls := .none, data := .fields more } := fun p hp => by
      obtain ⟨more, z⟩ := un.tbls p.2 #[] (O.tab p hp)
      exact ⟨_, hok' p.2 _ z⟩
    have other : ∀ b o, (∀ p ∈ ts, b ≠ p.2) → s₁.heap.get? b = some o → s'.heap.get? b = some o := fun b o nb e => by
      cases q : H b with
      | none => exact un.keep b o e q (by intro z; exact absurd (show b ∈ ([] : List Addr) from z) (by simp)) (by simp)
      | some u =>
        have eb : b = a := (O.who b (by rw [q]; exact fun z => nomatch z)).resolve_right fun ⟨p, hp, z⟩ => nb p hp z
        subst eb
        obtain ⟨ob, xs, rfl⟩ := O.frz _ q
        have e1 := (hok b _ q).1
        have e2 := (hok' b _ (un.frzs b ob _ q)).1
        rw [e] at e1
        cases e1
        exact e2
    refine ⟨rfl, ⟨fun b o e => ?_, fun b o e => ?_⟩, os, bare⟩
    · by_cases h : ∃ p ∈ ts, b = p.2
      · obtain ⟨p, hp, rfl⟩ := h
        obtain ⟨more, hm⟩ := hm p hp
        rw [ht p hp] at e
        cases e
        exact .inr (.inl ⟨((C p hp).tab (ht p hp)).isCodeTable, rfl, #[], more, rfl, by rw [Array.empty_append]; exact hm⟩)
      · exact .inl (other b o (fun p hp z => h ⟨p, hp, z⟩) e)
    · by_cases h : ∃ p ∈ ts, b = p.2
      · obtain ⟨p, hp, rfl⟩ := h
        obtain ⟨more, hm⟩ := hm p hp
        exact ⟨_, hm⟩
      · exact ⟨o, other b o (fun p hp z => h ⟨p, hp, z⟩) e⟩
theorem law_callS {ns : List Int}
    (KI : K.In s₁.heap) (hns : s₁.heap.Ns mainGlobals mg) (hb : s₁.heap.Ns builtinsNs mb)
    (hbb : ∀ x : Str, x ≠ "__name__" → mb x = bootBuiltins x) (hlim : s₁.heap.NoLimit) (hg : s₁.gens = #[])
    (ht : ∀ p ∈ ts, s₁.heap.get? p.2 = some { cls := .none, data := .fields #[] }) (nt : ∀ p ∈ ts, K.lookup p.2 = none) (C : ∀ p ∈ ts, PySem.W.CodeHd s₁.heap p.1 p.2)
    (hbm : ∃ (bm : Addr) (ob : Obj), mg "__builtins__" = some (.ref bm) ∧ bm ≠ builtinsNs ∧ s₁.heap.get? bm = some ob ∧ ob.cls = .type "module" ∧ ob.dict = some builtinsNs ∧ ob.data = .plain)
    (ha : s₁.heap.get? a = some { cls := .type "list", data := .seq vs.toArray }) (hi : IntsAre vs ns) (hl : ns.length ≤ sizeLine) (hr : Room k callerA)
    (F : ∀ base : Heap, K.In base → base.Ns mainGlobals mg → (∀ p ∈ ts, TabB base mg p.1 p.2) → FnR P w K mg base CX (CG k) fa fd [x] sp)
    (hbind : ∀ (s : Shared) (u : Value), BindsTo s fd ⟨[u], []⟩ [(x, u)])
    (hsp : ∀ H : Hp, (∀ p ∈ ts, H p.2 = some (.tbl #[])) → SqL K H a (ns.map V.int) → sp [.ref a] H (fun v _ => v = .bl true) fun _ _ _ => False)
    (hCX : ∀ H e s', CX [] H s₁ (fun _ _ _ => False) e s' → False) :
    codeAny (model P w) callerA (.call (.ref fa) ⟨[.ref a], []⟩)
      (fun r s' => r = .ok (.ret (.bool true)) ∧ OldK s₁.heap s'.heap ∧ s'.os = s₁.os ∧ AllBare s'.gens) s₁ := by
  have rv := vals_ints hi
  have nat : ∀ p ∈ ts, a ≠ p.2 := fun p hp z => by
    rw [z, ht p hp] at ha
    cases ha
  cases hk : K.lookup a with
  | some o =>
    have e := KI a o hk
    rw [ha] at e
    cases e
    let H : Hp := fun b => if b ∈ ts.map (·.2) then some (.tbl #[]) else none
    have atT : ∀ p ∈ ts, H p.2 = some (.tbl #[]) := fun p hp => if_pos (List.mem_map.mpr ⟨p, hp, rfl⟩)
    have off : ∀ {b}, b ∉ ts.map (·.2) → H b = none := fun h => if_neg h
    have on : ∀ {b}, b ∈ ts.map (·.2) → ∃ p ∈ ts, b = p.2 := fun h => by
      obtain ⟨p, hp, e⟩ := List.mem_map.mp h
      exact ⟨p, hp, e.symm⟩
    have noff : a ∉ ts.map (·.2) := fun h => by
      obtain ⟨p, hp, e⟩ := on h
      exact nat p hp e
    have S : SqL K H a (ns.map V.int) :=
      Or.inr ⟨_, vs.toArray, _, hk, rfl, rfl, rfl, by rw [List.size_toArray, hi.length]; exact hl, by simpa using rv⟩
    have O : OnlyS H a ts := ⟨atT, fun b z => Or.inr (on (Classical.byContradiction fun h => z (off h))), fun u z => by rw [off noff] at z; cases z⟩
    refine lawS_core KI hns hb hbb hlim hg ht nt C hbm ha hr F hbind hCX O (hsp _ atT S) (fun b u z => ?_) fun z => absurd (off noff) z
    by_cases h : b ∈ ts.map (·.2)
    · obtain ⟨p, hp, rfl⟩ := on h
      rw [atT p hp] at z
      cases z
      exact ht p hp
    · rw [off h] at z
      cases z
  | none =>
    let H : Hp := fun b => if b = a then some (.frz { cls := .type "list", data := .seq vs.toArray } (.lst (ns.map V.int))) else if b ∈ ts.map (·.2) then some (.tbl #[]) else none
    have on : ∀ {b}, b ∈ ts.map (·.2) → ∃ p ∈ ts, b = p.2 := fun h => by
      obtain ⟨p, hp, e⟩ := List.mem_map.mp h
      exact ⟨p, hp, e.symm⟩
    have atA : H a = some (.frz { cls := .type "list", data := .seq vs.toArray } (.lst (ns.map V.int))) := if_pos rfl
    have atT : ∀ p ∈ ts, H p.2 = some (.tbl #[]) := fun p hp => (if_neg (Ne.symm (nat p hp))).trans (if_pos (List.mem_map.mpr ⟨p, hp, rfl⟩))
    have off : ∀ {b}, b ≠ a → b ∉ ts.map (·.2) → H b = none := fun h h' => (if_neg h).trans (if_neg h')
    have S : SqL K H a (ns.map V.int) := Or.inl (Or.inr ⟨_, atA⟩)
    have O : OnlyS H a ts := ⟨atT, fun b z => by
      by_cases h : b = a
      · exact Or.inl h
      · exact Or.inr (on (Classical.byContradiction fun h' => z (off h h'))), fun u z => by rw [atA] at z; cases z; exact ⟨_, _, rfl⟩⟩
    refine lawS_core KI hns hb hbb hlim hg ht nt C hbm ha hr F hbind hCX O (hsp _ atT S) (fun b u z => ?_) fun _ => hk
    by_cases h : b = a
    · subst h
      rw [atA] at z
      cases z
      exact ⟨ha, by rw [List.length_map]; exact hl, vs, _, rv, ha⟩
    · by_cases h' : b ∈ ts.map (·.2)
      · obtain ⟨p, hp, rfl⟩ := on h'
        rw [atT p hp] at z
        cases z
        exact ht p hp
      · rw [off h h'] at z
        cases z
end
/-- what k_head leaves, by the law's promise under CG; ts: the tables of the code objects -/
theorem walk_ofS {l : PySem.W.OpenLaw} {n k : Nat} {q : Program} {loose : List Str} {XP : (Str → Option Value) → Heap → Prop}
    {YP : World → Heap → Prop} {d : DefRec} {K : Params → PySem.W.Frag} {CX : CXT} {x : Str} {ts : List (Addr × Addr)} {sp : PySem.W.Frag → Sp}
    (hn : l.most = some n) (hn2 : n ≤ sizeLine) (hdf : d.params.defaults = []) (hr : Room k callerA)
    (hY : ∀ (w : World) (h : Heap), YP w h → (K w.params).In h)
    (hT : ∀ (w : World) (h : Heap), YP w h → ∀ p ∈ ts, h.get? p.2 = some { cls := .none, data := .fields #[] })
    (hcd : ∀ w : World, ∀ p ∈ ts, PySem.W.codeHdIn (K w.params) p.1 p.2 = true) (nt : ∀ w : World, ∀ p ∈ ts, (K w.params).lookup p.2 = none)
    (F : ∀ (w : World) (mg : Str → Option Value) (fa : Addr) (h : Heap), (K w.params).In h → h.Ns mainGlobals mg →
      mg d.name = some (.ref fa) → ∃ fd : FuncData, (∀ (s : Shared) (u : Value), BindsTo s fd ⟨[u], []⟩ [(x, u)]) ∧
        ∀ base : Heap, (K w.params).In base → base.Ns mainGlobals mg → (∀ p ∈ ts, TabB base mg p.1 p.2) →
          FnR l.prog w (K w.params) mg base CX (CG k) fa fd [x] (sp (K w.params)))
    (hsp : ∀ (K : PySem.W.Frag) (H : Hp) (a : Addr) (ns : List Int), ns.length ≤ n → (∀ p ∈ ts, H p.2 = some (.tbl #[])) → SqL K H a (ns.map V.int) →
      sp K [.ref a] H (fun v _ => v = .bl true) fun _ _ _ => False)
    (hCX : ∀ (H : Hp) (s : Shared) (e : Value) (s' : Shared), CX [] H s (fun _ _ _ => False) e s' → False) :
    PySem.W.WalkO q loose XP YP l.row.toRowW d [] (fun f vs => PySem.call f vs) := by
  refine Att.attach_call hn hdf fun w s₀ s₁ mg mb fa o pm cd doc a vs ns G Y ho hd hcd' hmg hobj hints hlen hg => ?_
  have KI := hY w _ Y
  obtain ⟨fd, hb, hF⟩ := F w mg fa _ KI G.T.g hmg
  exact law_callS KI G.T.g G.T.b G.T.builtins G.T.nolimit hg (hT w _ Y) (nt w) (fun p hp => PySem.W.codeHd_of_K KI (hcd w p hp)) G.T.bmain hobj hints (Nat.le_trans hlen hn2) hr hF hb
    (fun H hH hS => hsp (K w.params) H a ns hlen hH hS) fun H e s' => hCX H s₁ e s'
end KX

namespace KX
open PySem PySem.Spec PyProof.Rows L2
/-! the rules that name the written part, with the written part handed in -/
section
variable {X : Cx} {K : PySem.W.Frag}
theorem cr_sortedK (hK : X.K = K := by rfl) : CallR X (.builtin "sorted") (rSorted K) := by subst hK; exact cr_sorted
theorem cr_sortTK (hK : X.K = K := by rfl) : CallR X (.builtin "sorted") (rSortT K) := by subst hK; exact cr_sortT
theorem cr_sortedPOK (hK : X.K = K := by rfl) : CallR X (.builtin "sorted") (rSortedPO K) := by subst hK; exact cr_sortedPO
theorem cr_maxK (hc : X.calm = true) (hK : X.K = K := by rfl) : CallR X (.builtin "max") (rMax K) := by subst hK; exact cr_max hc
theorem cr_minK (hc : X.calm = true) (hK : X.K = K := by rfl) : CallR X (.builtin "min") (rMin K) := by subst hK; exact cr_min hc
theorem cr_sumK (hc : X.calm = true) (hK : X.K = K := by rfl) : CallR X (.builtin "sum") (rSum K) := by subst hK; exact cr_sum hc
theorem cr_allK (hc : X.calm = true) (hK : X.K = K := by rfl) : CallR X (.builtin "all") (rAll K) := by subst hK; exact cr_all hc
theorem cr_anyK (hc : X.calm = true) (hK : X.K = K := by rfl) : CallR X (.builtin "any") (rAny K) := by subst hK; exact cr_any hc
theorem cr_reprK (hg : X.A.guards = some []) (hu : X.A.units + 66 < cLine) (hK : X.K = K := by rfl) : CallR X (.builtin "repr") (rRepr K) := by subst hK; exact cr_repr hg hu
def rLenS (K : PySem.W.Frag) : List V → Hp → VK → Prop := fun xs H Q => ∃ p ys, xs = [.ref p] ∧ (SqL K H p ys ∨ SqT K H p ys) ∧ Q (.int ys.length) H
theorem cr_lenK (hK : X.K = K := by rfl) : CallR X (.builtin "len") (rLenS K) := by subst hK; exact call_len_seq
def rListS (K : PySem.W.Frag) : List V → Hp → VK → Prop := fun xs H Q => ∃ p ys, xs = [.ref p] ∧ (SqL K H p ys ∨ SqT K H p ys) ∧ ∀ l, H l = none → Q (.ref l) (upd H l (.lst ys))
theorem cr_listK (hK : X.K = K := by rfl) : CallR X (.type "list") (rListS K) := by subst hK; exact call_list_of
theorem cr_isiK (hK : X.K = K := by rfl) : CallR X (.builtin "isinstance") (rIsi K) := by subst hK; exact call_isi
theorem cr_isiTK (hK : X.K = K := by rfl) : CallR X (.builtin "isinstance") (rIsiT K) := by subst hK; exact call_isiT
theorem ix_listK (hK : X.K = K := by rfl) : IxR X (rIxL K) := by subst hK; exact ix_list
theorem ix_tupK (hK : X.K = K := by rfl) : IxR X (rIxT K) := by subst hK; exact ix_tup
theorem sl_listK (hK : X.K = K := by rfl) : SlR X (rSlL K) := by subst hK; exact sl_list
theorem op_inK (hK : X.K = K := by rfl) : OpR X (compareOp .In) (rIn K false) := by subst hK; exact op_in_seq
theorem op_notInK (hK : X.K = K := by rfl) : OpR X (compareOp .NotIn) (rIn K true) := by subst hK; exact op_notIn_seq
theorem op_eqDK (hu : X.A.units + 64 < cLine) (hK : X.K = K := by rfl) : OpR X (compareOp .Eq) (rEqD K) := by subst hK; exact op_eqD hu
theorem op_neDK (hu : X.A.units + 64 < cLine) (hK : X.K = K := by rfl) : OpR X (compareOp .NotEq) (rNeD K) := by subst hK; exact op_neD hu
theorem op_inDK (hu : X.A.units + 65 < cLine) (hK : X.K = K := by rfl) : OpR X (compareOp .In) (rInD K) := by subst hK; exact op_inD hu
theorem op_notInDK (hu : X.A.units + 65 < cLine) (hK : X.K = K := by rfl) : OpR X (compareOp .NotIn) (rNotInD K) := by subst hK; exact op_notInD hu
section
variable {tg l e a : Expr} {tl ta te to : TE} {pos p tpos cpos apos : Pos} {f : Str} {t : TA} {es : List Expr}
theorem pi_listK (hl : PE X l tl) (hK : X.K = K := by rfl) : PI X tg l (iList K tl) := by subst hK; exact pi_list hl
theorem pi_tupK (hl : PE X l tl) (hK : X.K = K := by rfl) : PI X tg l (iTup K tl) := by subst hK; exact pi_tup hl
theorem pi_enumK {elts : List Expr} {kk : Nat} (hg : Gl X "enumerate") (hm : X.mg "enumerate" = none) (ha : PA X [e] t) (hs : starEach [e] X.env = [(false, eval e X.env)] := by rfl) (hK : X.K = K := by rfl) :
    PI X (.Tuple elts kk tpos) (.Call (.Name "enumerate" p) [e] [] pos) (iEnum K t) := by subst hK; exact pi_enum hg hm ha hs
theorem pi_enumTK {elts : List Expr} {kk : Nat} (hg : Gl X "enumerate") (hm : X.mg "enumerate" = none) (ha : PA X [e] t) (hs : starEach [e] X.env = [(false, eval e X.env)] := by rfl) (hK : X.K = K := by rfl) :
    PI X (.Tuple elts kk tpos) (.Call (.Name "enumerate" p) [e] [] pos) (iEnumT K t) := by subst hK; exact pi_enumT hg hm ha hs
theorem pe_fldK (he : PE X e ta) (hb : attributeBase e f X.env (eval e X.env) = eval e X.env := by rfl) (hK : X.K = K := by rfl) : PE X (.Attribute e f pos) (tFld K ta f) := by subst hK; exact pe_fld he hb
theorem ps_fldK {o value : Expr} {pos' : Pos} {tv : TE} (ha : PE X o ta) (hv : PE X value tv) (hs : swapsWith value (some (.Attribute o f pos')) pos.line X.env = pure false := by rfl) (hK : X.K = K := by rfl) :
    PS X (.Assign [.Attribute o f pos'] value pos) (sFld K ta tv f) := by subst hK; exact ps_fld ha hv hs
theorem pe_tupleK (hg : Gl X "tuple") (hm : X.mg "tuple" = none) (ha : PE X a ta) (na : starEach [a] X.env = (false, eval a X.env) :: starEach [] X.env := by rfl) (hK : X.K = K := by rfl) :
    PE X (.Call (.Name "tuple" p) [a] [] pos) (tThen ta (kTup K)) := by subst hK; exact pe_tupleOf hg hm ha na
theorem pg_tupK {k n : Nat} {t : TGs} (hc : X.calm = true) (h : PGs X es t) (hn : (assignEach es X.env).length = n := by rfl) (hst : (assignEach es X.env).findIdx? (·.1) = none := by rfl) (hK : X.K = K := by rfl) :
    PG X (.Tuple es k pos) (gTup K n t) := by subst hK; exact pg_tup hc h hn hst
theorem pg_lstK {k n : Nat} {t : TGs} (hc : X.calm = true) (h : PGs X es t) (hn : (assignEach es X.env).length = n := by rfl) (hst : (assignEach es X.env).findIdx? (·.1) = none := by rfl) (hK : X.K = K := by rfl) :
    PG X (.Tuple es k pos) (gLst K n t) := by subst hK; exact pg_lst hc h hn hst
end
end
/-! their readings -/
section
variable {σ : L2.St} {H : Hp} {Q : VK} {K : PySem.W.Frag}
theorem rd_lenB {p : Addr} {ys : List V} (ha : SqL K H p ys ∨ SqT K H p ys) (h : Q (.int ys.length) H) : rLenS K [.ref p] H Q := ⟨p, ys, rfl, ha, h⟩
theorem rd_len {p : Addr} {ys : List V} (ha : H p = some (.lst ys)) (h : Q (.int ys.length) H) : rLenS K [.ref p] H Q := ⟨p, ys, rfl, .inl (SqL.of ha), h⟩
theorem rd_lenTup {p : Addr} {ys : List V} (ha : Tup H p ys) (h : Q (.int ys.length) H) : rLenS K [.ref p] H Q := ⟨p, ys, rfl, .inr ha.sq, h⟩
theorem rd_list {p : Addr} {ys : List V} (ha : SqL K H p ys ∨ SqT K H p ys) (h : NewO H (.lst ys) Q) : rListS K [.ref p] H Q := ⟨p, ys, rfl, ha, new_of h⟩
theorem rd_sorted {p : Addr} {ns : List Int} (ha : H p = some (.lst (ns.map V.int))) (hl : ns.length < 64) (h : ∀ ns' : List Int, ns'.Perm ns → ns'.Pairwise (· ≤ ·) → NewO H (.lst (ns'.map V.int)) Q) : rSorted K [.ref p] H Q :=
  ⟨p, ns, rfl, SqL.of ha, hl, fun ns' q hp hs hq => new_of (h ns' hp hs) q hq⟩
theorem rd_tupL {p : Addr} {xs : List V} (ha : H p = some (.lst xs)) (h : NewO H (.tup xs) Q) : kTup K (.ref p) H Q := .inl ⟨p, xs, rfl, SqL.of ha, new_of h⟩
theorem rd_tupS {p : Addr} {xs : List V} (ha : Tup H p xs) (h : Q (.ref p) H) : kTup K (.ref p) H Q := .inr ⟨p, xs, rfl, ha.sq, h⟩
theorem rd_max {p : Addr} {ns : List Int} (ha : H p = some (.lst (ns.map V.int))) (hn : 0 < ns.length) (h : ∀ m, m ∈ ns → (∀ y ∈ ns, y ≤ m) → Q (.int m) H) : rMax K [.ref p] H Q := ⟨p, ns, rfl, SqL.of ha, hn, h⟩
theorem rd_repr {x : V} {d : PyData} (hd : Dp K H x d) (h1 : d.showable = true) (h2 : d.hasDict = false) (h3 : d.depth ≤ 64) (h4 : d.shown.length ≤ sizeLine) (h : Q (.str d.shown) H) : rRepr K [x] H Q := ⟨x, d, rfl, hd, h1, h2, h3, h4, h⟩
theorem rd_eqS {a b : Str} (h : Q (.bl (decide (a = b))) H) : rEq (.str a) (.str b) H Q := by
  refine ⟨rfl, ?_⟩
  have e : decide (V.str a = V.str b) = decide (a = b) := by by_cases z : a = b <;> simp [z]
  rw [e]; exact h
theorem rd_neS {a b : Str} (h : Q (.bl (!decide (a = b))) H) : rNe (.str a) (.str b) H Q := by
  refine ⟨rfl, ?_⟩
  have e : decide (V.str a = V.str b) = decide (a = b) := by by_cases z : a = b <;> simp [z]
  rw [e]; exact h
theorem rd_ty {p : Addr} {xs : List V} {R : Prop} (ha : H p = some (.lst xs)) (h : R) : tyV K "list" (.ref p) H ∧ R := ⟨.inl ⟨rfl, _, SqL.of ha⟩, h⟩
end
section
variable {X : Cx} {K : PySem.W.Frag} {o e : Expr} {es : List Expr} {to : TE} {t : TA} {apos cpos : Pos} {name : Str} {id : String} {r : V → List V → Hp → VK → Prop}
theorem pe_bmK (slot : Slot "list" name id) (hty : typeOf (.builtin id) = pure (.type "method_descriptor")) (hm : MtR X id r) (ho : PE X o to) (ha : PA X (e :: es) t)
    (hbase : attributeBase o name X.env (eval o X.env) = eval o X.env := by rfl)
    (hfew : ((backTo cpos (starEach (e :: es) X.env)).all (fun x => !x.1) && (backToKw cpos (keywordEach [] X.env)).all (fun x => x.1.isSome)
      && decide ((e :: es).length + ([] : List Keyword).length + (if ([] : List Keyword).isEmpty then 0 else 1) < 30)) = true := by rfl)
    (hline : (apos.endLine == cpos.line) = true := by rfl) (hs : starEach (e :: es) X.env = (false, eval e X.env) :: starEach es X.env := by rfl) (hplain : (backTo cpos (starEach es X.env)).any (·.1) = false := by rfl) (hK : X.K = K := by rfl) :
    PE X (.Call (.Attribute o name apos) (e :: es) [] cpos) (tBM K "list" r to t) := by subst hK; exact pe_bm PySem.F.plainAttrs_list slot hty hm ho ha hbase hfew hline hs hplain
theorem pe_bm0K (slot : Slot "list" name id) (hty : typeOf (.builtin id) = pure (.type "method_descriptor")) (hm : MtR X id r) (ho : PE X o to)
    (hbase : attributeBase o name X.env (eval o X.env) = eval o X.env := by rfl) (hline : (apos.endLine == cpos.line) = true := by rfl) (hK : X.K = K := by rfl) : PE X (.Call (.Attribute o name apos) [] [] cpos) (tBM0 K "list" r to) := by
  subst hK; exact pe_bm0 PySem.F.plainAttrs_list slot hty hm ho hbase hline
end
/-- what isinstance asks of an own class -/
structure IsCls (K : PySem.W.Frag) (C : Addr) : Prop where
  cl : Cls K C
  ha : PySem.W.findIn K (.ref C) "__class__" = some (some (.builtin "object.__class__"))
  hn : PySem.W.specialIn K (.builtin "object.__class__") "__get__" = some (some (.builtin "getset_descriptor.__get__"))
  ht : PySem.W.takesIn K (.builtin "object.__class__") = some true
  hm : PySem.W.mroIn K C (.type "object") = some true
  kit : PySem.W.kitOne K (.ref C) (.ref C) = some true
theorem IsCls.ty {K : PySem.W.Frag} {C : Addr} (h : IsCls K C) {H : Hp} {a dx : Addr} {fs : List (Str × V)} (e : H a = some (.ins C dx fs)) : TyX K H (.ref a) (.ref C) :=
  .base (.ins e h.cl h.ha h.hn h.ht h.hm)
/-! data: ints and pairs of ints -/
theorem dA_ints (K : PySem.W.Frag) (H : Hp) : ∀ ns : List Int, DpAll K H (ns.map V.int) (ns.map PyData.int)
  | [] => .nil
  | n :: ns => .cons (.int n) (dA_ints K H ns)
theorem dA_lay : ∀ ns : List Int, PyData.canLayAll0 (ns.map PyData.int) = true
  | [] => rfl
  | n :: ns => by
    show (PyData.canLay0 (.int n) && PyData.canLayAll0 (ns.map PyData.int)) = true
    rw [dA_lay ns]; rfl
theorem dA_dep : ∀ ns : List Int, PyData.depthAll (ns.map PyData.int) ≤ 1
  | [] => by decide
  | n :: ns => by
    have h := dA_dep ns
    show max (PyData.depth (.int n)) (PyData.depthAll (ns.map PyData.int)) ≤ 1
    have h1 : PyData.depth (.int n) = 0 := rfl
    rw [h1]; omega
theorem dA_sh (ns : List Int) : SeqAt.shaped (.tuple (ns.map PyData.int)) = true := by
  have h := dA_dep ns
  have h1 : PyData.depth (.tuple (ns.map PyData.int)) = PyData.depthAll (ns.map PyData.int) + 1 := rfl
  unfold SeqAt.shaped
  have h2 : PyData.canLay0 (.tuple (ns.map PyData.int)) = PyData.canLayAll0 (ns.map PyData.int) := rfl
  rw [h2, dA_lay, h1, Bool.true_and]
  exact decide_eq_true (by omega)
theorem dA_eqv : ∀ ns ms : List Int, PyData.eqvAll (ns.map PyData.int) (ms.map PyData.int) = decide (ns = ms)
  | [], [] => rfl
  | [], m :: ms => by simp [PyData.eqvAll]
  | n :: ns, [] => by simp [PyData.eqvAll]
  | n :: ns, m :: ms => by
    show ((n == m) && PyData.eqvAll (ns.map PyData.int) (ms.map PyData.int)) = _
    rw [dA_eqv ns ms]
    by_cases h1 : n = m
    · by_cases h2 : ns = ms <;> simp [h1, h2]
    · simp [h1]
def dP (e : Int × Int) : PyData := .tuple [.int e.1, .int e.2]
theorem dP_lay : ∀ L : List (Int × Int), PyData.canLayAll0 (L.map dP) = true
  | [] => rfl
  | n :: ns => by
    show (PyData.canLay0 (dP n) && PyData.canLayAll0 (ns.map dP)) = true
    rw [dP_lay ns]; rfl
theorem dP_dep : ∀ L : List (Int × Int), PyData.depthAll (L.map dP) ≤ 2
  | [] => by decide
  | n :: ns => by
    have h := dP_dep ns
    show max (PyData.depth (dP n)) (PyData.depthAll (ns.map dP)) ≤ 2
    have h1 : PyData.depth (dP n) = 1 := rfl
    rw [h1]; omega
theorem dP_shT (L : List (Int × Int)) : SeqAt.shaped (.tuple (L.map dP)) = true := by
  have h := dP_dep L
  have h1 : PyData.depth (.tuple (L.map dP)) = PyData.depthAll (L.map dP) + 1 := rfl
  unfold SeqAt.shaped
  have h2 : PyData.canLay0 (.tuple (L.map dP)) = PyData.canLayAll0 (L.map dP) := rfl
  rw [h2, dP_lay, h1, Bool.true_and]
  exact decide_eq_true (by omega)
theorem dP_shL (L : List (Int × Int)) : SeqAt.shaped (.list (L.map dP)) = true := by
  have h := dP_dep L
  have h1 : PyData.depth (.list (L.map dP)) = PyData.depthAll (L.map dP) + 1 := rfl
  unfold SeqAt.shaped
  have h2 : PyData.canLay0 (.list (L.map dP)) = PyData.canLayAll0 (L.map dP) := rfl
  rw [h2, dP_lay, h1, Bool.true_and]
  exact decide_eq_true (by omega)
theorem dP_sh1 (e : Int × Int) : SeqAt.shaped (dP e) = true := rfl
theorem dP_eqv1 (e f : Int × Int) : PyData.eqv (dP e) (dP f) = decide (e = f) := by
  obtain ⟨a, b⟩ := e
  obtain ⟨c, d⟩ := f
  show ((a == c) && ((b == d) && true)) = _
  by_cases h1 : a = c
  · by_cases h2 : b = d <;> simp [h1, h2]
  · simp [h1]
theorem dP_eqv : ∀ L M : List (Int × Int), PyData.eqvAll (L.map dP) (M.map dP) = decide (L = M)
  | [], [] => rfl
  | [], m :: ms => by simp [PyData.eqvAll]
  | n :: ns, [] => by simp [PyData.eqvAll]
  | n :: ns, m :: ms => by
    show (PyData.eqv (dP n) (dP m) && PyData.eqvAll (ns.map dP) (ms.map dP)) = _
    rw [dP_eqv ns ms, dP_eqv1]
    by_cases h1 : n = m
    · by_cases h2 : ns = ms <;> simp [h1, h2]
    · simp [h1]
theorem dP_any (e : Int × Int) (L : List (Int × Int)) : ((L.map dP).any fun z => PyData.eqv z (dP e)) = decide (e ∈ L) := by
  induction L with
  | nil => rfl
  | cons x L ih =>
    rw [List.map_cons, List.any_cons, ih, dP_eqv1]
    by_cases h : x = e
    · simp [h]
    · have h' : ¬ e = x := fun z => h z.symm
      simp [h, h']
theorem Room.u65 {k : Nat} {A : Around} (r : Room k A) : A.units + 65 < cLine := by have := r.un; omega
theorem Room.u66 {k : Nat} {A : Around} (r : Room k A) : A.units + 66 < cLine := by have := r.un; omega
end KX

namespace K04
open PySem PySem.Spec PyProof.Rows L2 KX
def top (i : Nat) : Stmt :=
  PySem.Challenge.pw_handalong_k04_networks_kept_and_refused.main.body.getD i (.Pass ⟨0, 0, 0, 0⟩)
theorem iteT' {A B : Prop} {c : Bool} (h : c = true) (a : A) : if c = true then A else B := by rw [if_pos h]; exact a
theorem iteF' {A B : Prop} {c : Bool} (h : c = false) (b : B) : if c = true then A else B := by rw [h]; exact iteF b
abbrev s_is_integer : Stmt := top 2
abbrev N_is_integer : List Str := ["value"]
theorem sc_is_integer : FnScope N_is_integer ["value"] (defScope s_is_integer) := ⟨rfl, rfl, rfl, by decide +kernel, rfl, by decide +kernel, by decide +kernel⟩
abbrev s_is_number : Stmt := top 3
abbrev N_is_number : List Str := ["value"]
theorem sc_is_number : FnScope N_is_number ["value"] (defScope s_is_number) := ⟨rfl, rfl, rfl, by decide +kernel, rfl, by decide +kernel, by decide +kernel⟩
abbrev s_is_below : Stmt := top 4
abbrev N_is_below : List Str := ["value", "limit"]
theorem sc_is_below : FnScope N_is_below ["value", "limit"] (defScope s_is_below) := ⟨rfl, rfl, rfl, by decide +kernel, rfl, by decide +kernel, by decide +kernel⟩
abbrev s_is_sequence : Stmt := top 5
abbrev N_is_sequence : List Str := ["value"]
theorem sc_is_sequence : FnScope N_is_sequence ["value"] (defScope s_is_sequence) := ⟨rfl, rfl, rfl, by decide +kernel, rfl, by decide +kernel, by decide +kernel⟩
abbrev s_is_mode : Stmt := top 12
abbrev N_is_mode : List Str := ["value"]
theorem sc_is_mode : FnScope N_is_mode ["value"] (defScope s_is_mode) := ⟨rfl, rfl, rfl, by decide +kernel, rfl, by decide +kernel, by decide +kernel⟩
abbrev s_checked_modes : Stmt := top 15
abbrev N_checked_modes : List Str := ["modes", "at", "mode"]
theorem sc_checked_modes : FnScope N_checked_modes ["modes"] (defScope s_checked_modes) := ⟨rfl, rfl, rfl, by decide +kernel, rfl, by decide +kernel, by decide +kernel⟩
abbrev s_linked_sites : Stmt := top 16
abbrev N_linked_sites : List Str := ["many", "links", "near", "at", "link", "one", "other", "_", "row"]
theorem sc_linked_sites : FnScope N_linked_sites ["many", "links"] (defScope s_linked_sites) := ⟨rfl, rfl, rfl, by decide +kernel, rfl, by decide +kernel, by decide +kernel⟩
abbrev s_can_link : Stmt := top 17
abbrev N_can_link : List Str := ["near", "link", "one", "other"]
theorem sc_can_link : FnScope N_can_link ["near", "link"] (defScope s_can_link) := ⟨rfl, rfl, rfl, by decide +kernel, rfl, by decide +kernel, by decide +kernel⟩
abbrev s__law_draw : Stmt := top 19
abbrev N__law_draw : List Str := ["script", "salt", "cells", "blend", "cell"]
theorem sc__law_draw : FnScope N__law_draw ["script", "salt"] (defScope s__law_draw) := ⟨rfl, rfl, rfl, by decide +kernel, rfl, by decide +kernel, by decide +kernel⟩
abbrev s__law_any : Stmt := top 20
abbrev N__law_any : List Str := ["deal", "bound", "rest"]
theorem sc__law_any : FnScope N__law_any ["deal", "bound"] (defScope s__law_any) := ⟨rfl, rfl, rfl, by decide +kernel, rfl, by decide +kernel, by decide +kernel⟩
abbrev s__law_of : Stmt := top 21
abbrev N__law_of : List Str := ["deal", "some"]
theorem sc__law_of : FnScope N__law_of ["deal", "some"] (defScope s__law_of) := ⟨rfl, rfl, rfl, by decide +kernel, rfl, by decide +kernel, by decide +kernel⟩
abbrev s__law_links : Stmt := top 22
abbrev N__law_links : List Str := ["deal", "many", "form", "links", "most", "steps", "one", "step", "other", "met", "site", "link"]
theorem sc__law_links : FnScope N__law_links ["deal", "many"] (defScope s__law_links) := ⟨rfl, rfl, rfl, by decide +kernel, rfl, by decide +kernel, by decide +kernel⟩
abbrev s__law_network : Stmt := top 23
abbrev N__law_network : List Str := ["deal", "kinds", "many", "start", "turn", "modes", "at"]
theorem sc__law_network : FnScope N__law_network ["deal", "kinds", "many"] (defScope s__law_network) := ⟨rfl, rfl, rfl, by decide +kernel, rfl, by decide +kernel, by decide +kernel⟩
abbrev s__law_mixed : Stmt := top 24
abbrev N__law_mixed : List Str := ["deal", "some", "left", "found"]
theorem sc__law_mixed : FnScope N__law_mixed ["deal", "some"] (defScope s__law_mixed) := ⟨rfl, rfl, rfl, by decide +kernel, rfl, by decide +kernel, by decide +kernel⟩
abbrev s__law_refused : Stmt := top 25
abbrev N__law_refused : List Str := ["work", "e"]
theorem sc__law_refused : FnScope N__law_refused ["work"] (defScope s__law_refused) := ⟨rfl, rfl, rfl, by decide +kernel, rfl, by decide +kernel, by decide +kernel⟩
abbrev s_law : Stmt := top 29
abbrev N_law : List Str := ["script", "deal", "turn", "modes", "links", "handed", "row", "net", "told", "one", "other"]
theorem sc_law : FnScope N_law ["script"] (defScope s_law) := ⟨rfl, rfl, rfl, by decide +kernel, rfl, by decide +kernel, by decide +kernel⟩
abbrev s_Network_init : Stmt := inClass (top 14) 0
abbrev N_Network_init : List Str := ["self", "modes", "links", "one", "near", "other"]
theorem sc_Network_init : FnScope N_Network_init ["self", "modes", "links"] (defScope s_Network_init) := ⟨rfl, rfl, rfl, by decide +kernel, rfl, by decide +kernel, by decide +kernel⟩
abbrev s_Network_eq : Stmt := inClass (top 14) 1
abbrev N_Network_eq : List Str := ["self", "other"]
theorem sc_Network_eq : FnScope N_Network_eq ["self", "other"] (defScope s_Network_eq) := ⟨rfl, rfl, rfl, by decide +kernel, rfl, by decide +kernel, by decide +kernel⟩
/-- what the top must have -/
structure TX (K : PySem.W.Frag) (mg : Str → Option Value) where
  f_is_integer : Addr
  d_is_integer : FuncData
  F_is_integer : Fun K "is_integer" "is_integer" s_is_integer f_is_integer d_is_integer
  m_is_integer : mg "is_integer" = some (.ref f_is_integer)
  f_is_number : Addr
  d_is_number : FuncData
  F_is_number : Fun K "is_number" "is_number" s_is_number f_is_number d_is_number
  m_is_number : mg "is_number" = some (.ref f_is_number)
  f_is_below : Addr
  d_is_below : FuncData
  F_is_below : Fun K "is_below" "is_below" s_is_below f_is_below d_is_below
  m_is_below : mg "is_below" = some (.ref f_is_below)
  f_is_sequence : Addr
  d_is_sequence : FuncData
  F_is_sequence : Fun K "is_sequence" "is_sequence" s_is_sequence f_is_sequence d_is_sequence
  m_is_sequence : mg "is_sequence" = some (.ref f_is_sequence)
  f_is_mode : Addr
  d_is_mode : FuncData
  F_is_mode : Fun K "is_mode" "is_mode" s_is_mode f_is_mode d_is_mode
  m_is_mode : mg "is_mode" = some (.ref f_is_mode)
  f_checked_modes : Addr
  d_checked_modes : FuncData
  F_checked_modes : Fun K "checked_modes" "checked_modes" s_checked_modes f_checked_modes d_checked_modes
  m_checked_modes : mg "checked_modes" = some (.ref f_checked_modes)
  f_linked_sites : Addr
  d_linked_sites : FuncData
  F_linked_sites : Fun K "linked_sites" "linked_sites" s_linked_sites f_linked_sites d_linked_sites
  m_linked_sites : mg "linked_sites" = some (.ref f_linked_sites)
  f_can_link : Addr
  d_can_link : FuncData
  F_can_link : Fun K "can_link" "can_link" s_can_link f_can_link d_can_link
  m_can_link : mg "can_link" = some (.ref f_can_link)
  f__law_draw : Addr
  d__law_draw : FuncData
  F__law_draw : Fun K "_law_draw" "_law_draw" s__law_draw f__law_draw d__law_draw
  m__law_draw : mg "_law_draw" = some (.ref f__law_draw)
  f__law_any : Addr
  d__law_any : FuncData
  F__law_any : Fun K "_law_any" "_law_any" s__law_any f__law_any d__law_any
  m__law_any : mg "_law_any" = some (.ref f__law_any)
  f__law_of : Addr
  d__law_of : FuncData
  F__law_of : Fun K "_law_of" "_law_of" s__law_of f__law_of d__law_of
  m__law_of : mg "_law_of" = some (.ref f__law_of)
  f__law_links : Addr
  d__law_links : FuncData
  F__law_links : Fun K "_law_links" "_law_links" s__law_links f__law_links d__law_links
  m__law_links : mg "_law_links" = some (.ref f__law_links)
  f__law_network : Addr
  d__law_network : FuncData
  F__law_network : Fun K "_law_network" "_law_network" s__law_network f__law_network d__law_network
  m__law_network : mg "_law_network" = some (.ref f__law_network)
  f__law_mixed : Addr
  d__law_mixed : FuncData
  F__law_mixed : Fun K "_law_mixed" "_law_mixed" s__law_mixed f__law_mixed d__law_mixed
  m__law_mixed : mg "_law_mixed" = some (.ref f__law_mixed)
  f__law_refused : Addr
  d__law_refused : FuncData
  F__law_refused : Fun K "_law_refused" "_law_refused" s__law_refused f__law_refused d__law_refused
  m__law_refused : mg "_law_refused" = some (.ref f__law_refused)
  f_law : Addr
  d_law : FuncData
  F_law : Fun K "law" "law" s_law f_law d_law
  m_law : mg "law" = some (.ref f_law)
  n_int : mg "int" = none
  n_bool : mg "bool" = none
  n_abs : mg "abs" = none
  n_len : mg "len" = none
  n_min : mg "min" = none
  n_max : mg "max" = none
  n_sorted : mg "sorted" = none
  n_tuple : mg "tuple" = none
  n_list : mg "list" = none
  n_range : mg "range" = none
  n_repr : mg "repr" = none
  n_isinstance : mg "isinstance" = none
  n_enumerate : mg "enumerate" = none
  t_MOST_MODES : Tok
  m_MOST_MODES : mg "MOST_MODES" = some (.int 4 t_MOST_MODES)
  t_MOST_NEIGHBOURS : Tok
  m_MOST_NEIGHBOURS : mg "MOST_NEIGHBOURS" = some (.int 4 t_MOST_NEIGHBOURS)
  c_InvalidNetwork : Addr
  i_InvalidNetwork : Addr
  E_InvalidNetwork : PySem.ErrX.ErrTxt K mg "InvalidNetwork" "InvalidNetwork.__init__" c_InvalidNetwork i_InvalidNetwork
  c_Network : Addr
  m_Network : mg "Network" = some (.ref c_Network)
  C_Network : Cls K c_Network
  A_Network_modes : NoAttr K c_Network "modes"
  A_Network__near : NoAttr K c_Network "_near"
  A_Network_links : NoAttr K c_Network "links"
  f_Network_init : Addr
  d_Network_init : FuncData
  F_Network_init : Fun K "__init__" "Network.__init__" s_Network_init f_Network_init d_Network_init
  f_Network_eq : Addr
  d_Network_eq : FuncData
  F_Network_eq : Fun K "__eq__" "Network.__eq__" s_Network_eq f_Network_eq d_Network_eq
  M_Network : Mk K c_Network f_Network_init
  I_Network : IsCls K c_Network
  O_Network : OwnC K c_Network f_Network_eq
section
variable {K : PySem.W.Frag} {mg : Str → Option Value} (T : TX K mg)
theorem TX.b_is_integer : Binds K T.d_is_integer ["value"] [] := T.F_is_integer.binds fun _ _ _ _ _ _ us hl => match us, hl with | [_], _ => rfl
theorem TX.b_is_number : Binds K T.d_is_number ["value"] [] := T.F_is_number.binds fun _ _ _ _ _ _ us hl => match us, hl with | [_], _ => rfl
theorem TX.b_is_below : Binds K T.d_is_below ["value", "limit"] [] := T.F_is_below.binds fun _ _ _ _ _ _ us hl => match us, hl with | [_, _], _ => rfl
theorem TX.b_is_sequence : Binds K T.d_is_sequence ["value"] [] := T.F_is_sequence.binds fun _ _ _ _ _ _ us hl => match us, hl with | [_], _ => rfl
theorem TX.b_is_mode : Binds K T.d_is_mode ["value"] [] := T.F_is_mode.binds fun _ _ _ _ _ _ us hl => match us, hl with | [_], _ => rfl
theorem TX.b_checked_modes : Binds K T.d_checked_modes ["modes"] [] := T.F_checked_modes.binds fun _ _ _ _ _ _ us hl => match us, hl with | [_], _ => rfl
theorem TX.b_linked_sites : Binds K T.d_linked_sites ["many", "links"] [] := T.F_linked_sites.binds fun _ _ _ _ _ _ us hl => match us, hl with | [_, _], _ => rfl
theorem TX.b_can_link : Binds K T.d_can_link ["near", "link"] [] := T.F_can_link.binds fun _ _ _ _ _ _ us hl => match us, hl with | [_, _], _ => rfl
theorem TX.b__law_draw : Binds K T.d__law_draw ["script", "salt"] [] := T.F__law_draw.binds fun _ _ _ _ _ _ us hl => match us, hl with | [_, _], _ => rfl
theorem TX.b__law_any : Binds K T.d__law_any ["deal", "bound"] [] := T.F__law_any.binds fun _ _ _ _ _ _ us hl => match us, hl with | [_, _], _ => rfl
theorem TX.b__law_of : Binds K T.d__law_of ["deal", "some"] [] := T.F__law_of.binds fun _ _ _ _ _ _ us hl => match us, hl with | [_, _], _ => rfl
theorem TX.b__law_links : Binds K T.d__law_links ["deal", "many"] [] := T.F__law_links.binds fun _ _ _ _ _ _ us hl => match us, hl with | [_, _], _ => rfl
theorem TX.b__law_network : Binds K T.d__law_network ["deal", "kinds", "many"] [] := T.F__law_network.binds fun _ _ _ _ _ _ us hl => match us, hl with | [_, _, _], _ => rfl
theorem TX.b__law_mixed : Binds K T.d__law_mixed ["deal", "some"] [] := T.F__law_mixed.binds fun _ _ _ _ _ _ us hl => match us, hl with | [_, _], _ => rfl
theorem TX.b__law_refused : Binds K T.d__law_refused ["work"] [] := T.F__law_refused.binds fun _ _ _ _ _ _ us hl => match us, hl with | [_], _ => rfl
theorem TX.b_law : Binds K T.d_law ["script"] [] := T.F_law.binds fun _ _ _ _ _ _ us hl => match us, hl with | [_], _ => rfl
theorem TX.b_Network_init : Binds K T.d_Network_init ["self", "modes", "links"] [] := T.F_Network_init.binds fun _ _ _ _ _ _ us hl => match us, hl with | [_, _, _], _ => rfl
theorem TX.b_Network_eq : Binds K T.d_Network_eq ["self", "other"] [] := T.F_Network_eq.binds fun _ _ _ _ _ _ us hl => match us, hl with | [_, _], _ => rfl
end
/-! ### the deal -/
structure DealAt (H : Hp) (p q : Addr) (ns : List Int) (b : Int) : Prop where
  hp : H p = some (.lst [.ref q, .int b])
  hq : H q = some (.lst (ns.map V.int))
  ne : p ≠ q
  nn : ∀ n ∈ ns, 0 ≤ n
  len : ns.length ≤ 48
  b0 : 0 ≤ b
  b1 : b < 2147483647
def Deal (H : Hp) (p q : Addr) : Prop := ∃ ns b, DealAt H p q ns b
/-- all but the deal's two lists stays -/
def Fix (p q : Addr) (H H' : Hp) : Prop := ∀ a o, a ≠ p → a ≠ q → H a = some o → H' a = some o
theorem Fix.refl (p q : Addr) (H : Hp) : Fix p q H H := fun _ _ _ _ h => h
theorem Fix.trans {p q : Addr} {H H1 H2 : Hp} (a : Fix p q H H1) (b : Fix p q H1 H2) : Fix p q H H2 := fun c o h1 h2 h => b c o h1 h2 (a c o h1 h2 h)
theorem Fix.same {p q : Addr} {H H' : Hp} (s : Same H H') : Fix p q H H' := fun c o _ _ h => s c o h
theorem Fix.new {p q a : Addr} {H : Hp} {o : HO} (n : H a = none) : Fix p q H (upd H a o) := fun c u _ _ h => by
  rw [upd_ne (fun z => by rw [z, n] at h; cases h)]; exact h
theorem Fix.p {p q : Addr} {H : Hp} {o : HO} : Fix p q H (upd H p o) := fun c u h1 _ h => by rw [upd_ne h1]; exact h
theorem Fix.q {p q : Addr} {H : Hp} {o : HO} : Fix p q H (upd H q o) := fun c u _ h2 h => by rw [upd_ne h2]; exact h
theorem DealAt.new {H : Hp} {p q a : Addr} {ns : List Int} {b : Int} {o : HO} (d : DealAt H p q ns b) (n : H a = none) : DealAt (upd H a o) p q ns b :=
  ⟨by rw [upd_ne (fun z => by have := d.hp; rw [z, n] at this; cases this)]; exact d.hp,
   by rw [upd_ne (fun z => by have := d.hq; rw [z, n] at this; cases this)]; exact d.hq, d.ne, d.nn, d.len, d.b0, d.b1⟩
theorem DealAt.toq {H : Hp} {p q : Addr} {ns ms : List Int} {b : Int} (d : DealAt H p q ns b) (hn : ∀ n ∈ ms, 0 ≤ n) (hl : ms.length ≤ 48) :
    DealAt (upd H q (.lst (ms.map V.int))) p q ms b :=
  ⟨by rw [upd_ne d.ne]; exact d.hp, upd_same, d.ne, hn, hl, d.b0, d.b1⟩
theorem DealAt.top {H : Hp} {p q : Addr} {ns : List Int} {b c : Int} (d : DealAt H p q ns b) (h0 : 0 ≤ c) (h1 : c < 2147483647) :
    DealAt (upd H p (.lst [.ref q, .int c])) p q ns c :=
  ⟨upd_same, by rw [upd_ne (Ne.symm d.ne)]; exact d.hq, d.ne, d.nn, d.len, h0, h1⟩
theorem Deal.same {H H' : Hp} {p q : Addr} (d : Deal H p q) (s : Same H H') : Deal H' p q := by
  obtain ⟨ns, b, d⟩ := d
  exact ⟨ns, b, s _ _ d.hp, s _ _ d.hq, d.ne, d.nn, d.len, d.b0, d.b1⟩
def spAny : Sp := fun vs H Q _ => ∃ (p q : Addr) (m : Int), vs = [.ref p, .int m] ∧ Deal H p q ∧ 0 < m ∧ m < 1073741824 ∧
  ∀ H' i, Deal H' p q → Fix p q H H' → 0 ≤ i → i < m → Q (.int i) H'
def spOf (K : PySem.W.Frag) : Sp := fun vs H Q _ => ∃ (p q a : Addr) (xs : List V), vs = [.ref p, .ref a] ∧ Deal H p q ∧ a ≠ p ∧ a ≠ q ∧ H a = some (.lst xs) ∧
  0 < xs.length ∧ xs.length < 1000 ∧ ∀ H' x, x ∈ xs → Deal H' p q → Fix p q H H' → Q x H'
/-! data of a list of ints -/
theorem dpAll_ints (K : PySem.W.Frag) (H : Hp) : ∀ ns : List Int, DpAll K H (ns.map V.int) (ns.map PyData.int)
  | [] => .nil
  | n :: ns => .cons (.int n) (dpAll_ints K H ns)
theorem dp_ints {K : PySem.W.Frag} {H : Hp} {a : Addr} {ns : List Int} (h : H a = some (.lst (ns.map V.int))) : Dp K H (.ref a) (.list (ns.map PyData.int)) :=
  .lst (SqL.of h) (dpAll_ints K H ns)
theorem lay_ints : ∀ ns : List Int, PyData.canLayAll0 (ns.map PyData.int) = true
  | [] => rfl
  | n :: ns => by
    show (PyData.canLay0 (.int n) && PyData.canLayAll0 (ns.map PyData.int)) = true
    rw [lay_ints ns]; rfl
theorem dep_ints : ∀ ns : List Int, PyData.depthAll (ns.map PyData.int) ≤ 1
  | [] => by decide
  | n :: ns => by
    have h := dep_ints ns
    show max (PyData.depth (.int n)) (PyData.depthAll (ns.map PyData.int)) ≤ 1
    have h1 : PyData.depth (.int n) = 0 := rfl
    rw [h1]; omega
theorem sh_ints (ns : List Int) : SeqAt.shaped (.list (ns.map PyData.int)) = true := by
  have h := dep_ints ns
  have h1 : PyData.depth (.list (ns.map PyData.int)) = PyData.depthAll (ns.map PyData.int) + 1 := rfl
  unfold SeqAt.shaped
  have h2 : PyData.canLay0 (.list (ns.map PyData.int)) = PyData.canLayAll0 (ns.map PyData.int) := rfl
  rw [h2, lay_ints, h1, Bool.true_and]
  exact decide_eq_true (by omega)
theorem ne_nil_ints (ns : List Int) : PyData.eqv (.list (ns.map PyData.int)) (.list ([] : List PyData)) = decide (ns = []) := by
  cases ns <;> rfl
section
variable {P : Program} {w : World} {K : PySem.W.Frag} {mg : Str → Option Value} {base : Heap}
theorem ok_any {f : Addr} {fd : FuncData} (F : Fun K "_law_any" "_law_any" s__law_any f fd) (gi : mg "int" = none) : FnOk P w K mg base CX0 1 f fd ["deal", "bound"] spAny := by
  refine F.ok sc__law_any (fun vs H Q E h => ?_) fun cdv A outer s H vs Q E hr h => ⟨_, 
    pss_cons (ps_while PassesOwn.never (PW.pt (pw_and (pt_cmpR (op_neD hr.units) (pe_ix ix_list (pv 0) pe_int (fun _ _ => rfl)) (pe_lst pa_nil) (nomark _))
        (pw_and1 (pt_cmpR op_eq (pe_ix ix_list (pe_ix ix_list (pv 0) pe_int (fun _ _ => rfl)) (pe_un un_neg pe_int) (fun _ _ => rfl)) pe_int (nomark _)))))
      (pss_one (ps_expr (pe_bm0 PySem.F.plainAttrs_list PySem.F.slot_list_pop PySem.F.type_list_pop mt_pop (pe_ix ix_list (pv 0) pe_int (fun _ _ => rfl))))))
    (pss_cons (ps_if (pt_cmpR (op_neD hr.units) (pe_ix ix_list (pv 0) pe_int (fun _ _ => rfl)) (pe_lst pa_nil) (nomark _))
      (pss_cons (ps_set (i := 2) sc__law_any.nd rfl (.inl rfl) (pe_callTy call_int1 (by rfl) gi (by decide +kernel)
          (pa_cons (pe_bm0 PySem.F.plainAttrs_list PySem.F.slot_list_pop PySem.F.type_list_pop mt_pop (pe_ix ix_list (pv 0) pe_int (fun _ _ => rfl))) pa_nil)))
        (pss_cons (ps_expr (pe_bm PySem.F.plainAttrs_list PySem.F.slot_list_append PySem.F.type_list_append mt_append (pe_ix ix_list (pv 0) pe_int (fun _ _ => rfl))
            (pa_cons (pe_op op_fdiv (pv 2) (pv 1)) pa_nil)))
          (pss_one (ps_ret (pe_op op_mod (pv 2) (pv 1)))))) pss_nil)
    (pss_cons (ps_asg (pe_op op_mod (pe_callTy call_int1 (by rfl) gi (by decide +kernel) (pa_cons (pe_op op_add (pe_op op_mul (pe_ix ix_list (pv 0) pe_int (fun _ _ => rfl)) pe_int) pe_int) pa_nil)) pe_int)
        (pg_sub (pv 0) pe_int set_list))
    (pss_one (ps_ret (pe_op op_mod (pe_callTy call_int1 (by rfl) gi (by decide +kernel) (pa_cons (pe_op op_fdiv (pe_ix ix_list (pv 0) pe_int (fun _ _ => rfl)) pe_int) pa_nil)) (pv 1)))))), ?_⟩
  · obtain ⟨p, q, m, rfl, _⟩ := h
    rfl
  · obtain ⟨p, q, m, rfl, ⟨ns, b, d⟩, hm0, hm1, hQ⟩ := h
    refine ⟨fun n σ H' => σ = L2.start ["deal", "bound", "rest"] [.ref p, .int m] ∧ ∃ ns b, DealAt H' p q ns b ∧ Fix p q H H' ∧ n = ns.length, ⟨_, rfl, ns, b, d, Fix.refl _ _ _, rfl⟩, ?_⟩
    rintro n σ H' ⟨rfl, ns, b, d, fx, rfl⟩
    have d1 : ∀ e, H' e = none → DealAt (upd H' e (.lst [])) p q ns b := fun e he => d.new he
    have qe : ∀ e, H' e = none → q ≠ e := fun e he z => by have := d.hq; rw [z, he] at this; cases this
    refine ⟨.ref p, rfl, p, [.ref q, .int b], 0, .ref q, rfl, rfl, SqL.of d.hp, rfl, by show 0 ≤ sizeLine; decide, fun e he => ?_⟩
    refine ⟨_, _, dp_ints (d1 e he).hq, .lst (ds := []) (SqL.of upd_same) .nil, sh_ints ns, by decide, _, rfl, ?_⟩
    rw [ne_nil_ints]
    have fx1 : Fix p q H (upd H' e (.lst [])) := fx.trans (Fix.new he)
    have D1 := d1 e he
    generalize hG : upd H' e (.lst []) = H1 at D1 fx1
    clear hG d d1 qe he fx
    rcases List.eq_nil_or_concat ns with hn | ⟨init, l, hn⟩
    · subst hn
      refine iteF ?_
      refine ⟨.ref p, rfl, p, [.ref q, .int b], 0, .ref q, rfl, rfl, SqL.of D1.hp, rfl, by show 0 ≤ sizeLine; decide, fun e he => ?_⟩
      refine ⟨_, _, dp_ints (D1.new he).hq, .lst (ds := []) (SqL.of upd_same) .nil, sh_ints [], by decide, _, rfl, ?_⟩
      rw [ne_nil_ints]
      refine iteF ?_
      have D2 := D1.new (o := .lst []) he
      have fx2 : Fix p q H (upd H1 e (.lst [])) := fx1.trans (Fix.new he)
      generalize upd H1 e (.lst []) = H2 at D2 fx2
      have D3 := D2.top (c := (b * 40693 + 71) % 2147483647) (Int.emod_nonneg _ (by decide)) (Int.emod_lt_of_pos _ (by decide))
      have fx3 : Fix p q H (upd H2 p (.lst [.ref q, .int ((b * 40693 + 71) % 2147483647)])) := fx2.trans Fix.p
      refine ⟨.ref p, rfl, p, [.ref q, .int b], 1, .int b, rfl, rfl, SqL.of D2.hp, rfl, b, 40693, rfl, rfl, .inr ⟨by decide, by decide⟩, ?_⟩
      refine ⟨_, _, rfl, rfl, .inl ⟨_, rfl, _, _, rfl, rfl, (by decide : (0 : Int) < 2147483647), ?_⟩⟩
      refine ⟨.ref p, rfl, p, [.ref q, .int b], 1, 1, rfl, rfl, D2.hp, rfl, ?_⟩
      refine ⟨.ref p, rfl, p, [.ref q, .int _], 1, .int _, rfl, rfl, SqL.of D3.hp, rfl, _, 64, rfl, rfl, ⟨by decide, by decide⟩, .inl ⟨_, rfl, .int m, rfl, _, m, rfl, rfl, hm0, ?_⟩⟩
      exact hQ _ _ ⟨_, _, D3⟩ fx3 (Int.emod_nonneg _ (by omega)) (Int.emod_lt_of_pos _ hm0)
    · have hn : ns = init ++ [l] := by simpa using hn
      subst hn
      have nz : decide (init ++ [l] = ([] : List Int)) = false := by simp
      rw [nz]
      refine iteT ?_
      have hml : (init ++ [l]).map V.int = init.map V.int ++ [V.int l] := by simp
      have hpop : (init.map V.int ++ [V.int l])[(init.map V.int ++ [V.int l]).length - 1]? = some (V.int l) := by simp
      have hdl : (init.map V.int ++ [V.int l]).dropLast = init.map V.int := by simp
      have l0 : 0 ≤ l := D1.nn l (by simp)
      have len := D1.len
      have len' : init.length + 1 ≤ 48 := by simpa using len
      have hq := D1.hq
      rw [hml] at hq
      refine ⟨.ref p, rfl, p, [.ref q, .int b], 0, .ref q, rfl, rfl, SqL.of D1.hp, rfl, 1, rfl, q, _, -1, V.int l, rfl, rfl, SqL.of hq, atI_last _ _, rfl, _, rfl, ?_⟩
      by_cases hl : l = 0
      · have e1 : decide (V.int l = V.int 0) = true := by rw [hl]; decide
        refine iteT' e1 ?_
        refine ⟨fun σ' H'' => σ' = L2.start ["deal", "bound", "rest"] [.ref p, .int m] ∧ ∃ ns b, DealAt H'' p q ns b ∧ Fix p q H H'' ∧ ns.length = init.length, fun σ' H'' ⟨e, ns, b, h1, h2, h3⟩ => ⟨_, by simpa [h3] using Nat.lt_succ_self init.length, e, ns, b, h1, h2, rfl⟩, ?_⟩
        refine ⟨.ref p, rfl, p, [.ref q, .int b], 0, .ref q, rfl, rfl, SqL.of D1.hp, rfl, .inl ⟨rfl, _, SqL.of hq⟩, q, _, .int l, rfl, rfl, hq, hpop, ?_⟩
        rw [hdl]
        exact ⟨rfl, init, b, D1.toq (fun n hn => D1.nn n (by simp [hn])) (by omega), fx1.trans Fix.q, rfl⟩
      · have e1 : decide (V.int l = V.int 0) = false := by simpa using hl
        refine iteF' e1 ?_
        refine ⟨.ref p, rfl, p, [.ref q, .int b], 0, .ref q, rfl, rfl, SqL.of D1.hp, rfl, by show 0 ≤ sizeLine; decide, fun e he => ?_⟩
        have D2 := D1.new (o := .lst []) he
        refine ⟨_, _, dp_ints D2.hq, .lst (ds := []) (SqL.of upd_same) .nil, sh_ints _, by decide, _, rfl, ?_⟩
        rw [ne_nil_ints, nz]
        refine iteT ?_
        have fx2 : Fix p q H (upd H1 e (.lst [])) := fx1.trans (Fix.new he)
        generalize upd H1 e (.lst []) = H2 at D2 fx2
        have hq2 := D2.hq
        rw [hml] at hq2
        have D3 : DealAt (upd H2 q (.lst (init.map V.int))) p q init b := D2.toq (fun n hn => D1.nn n (by simp [hn])) (by omega)
        have D4 : DealAt (upd (upd H2 q (.lst (init.map V.int))) q (.lst ((init ++ [l / m]).map V.int))) p q (init ++ [l / m]) b := D3.toq (fun n hn => by
          rcases List.mem_append.mp hn with h | h
          · exact D1.nn n (by simp [h])
          · rw [List.mem_singleton.mp h]; exact Int.ediv_nonneg l0 (by omega)) (by simpa using len')
        refine ⟨.ref p, rfl, p, [.ref q, .int b], 0, .ref q, rfl, rfl, SqL.of D2.hp, rfl, .inl ⟨rfl, _, SqL.of hq2⟩, q, _, .int l, rfl, rfl, hq2, hpop, .inl ⟨l, rfl, ?_⟩⟩
        rw [hdl]
        refine ⟨.ref p, rfl, p, [.ref q, .int b], 0, .ref q, rfl, rfl, SqL.of D3.hp, rfl, .inl ⟨rfl, _, SqL.of upd_same⟩, .int l, rfl, .int m, rfl, l, m, rfl, rfl, ⟨hm0, hm1⟩, q, _, _, rfl, rfl, upd_same, ?_, ?_⟩
        · rw [List.length_map]; exact Nat.lt_of_lt_of_le (by omega : init.length < 48) (by decide)
        have ha : init.map V.int ++ [V.int (l / m)] = (init ++ [l / m]).map V.int := by simp
        rw [ha]
        refine ⟨.int l, rfl, .int m, rfl, l, m, rfl, rfl, hm0, ?_⟩
        exact hQ _ _ ⟨_, _, D4⟩ (fx2.trans (Fix.q.trans Fix.q)) (Int.emod_nonneg _ (by omega)) (Int.emod_lt_of_pos _ hm0)
theorem ok_of {f fA : Addr} {fd fdA : FuncData} (F : Fun K "_law_of" "_law_of" s__law_of f fd) (FA : Fun K "_law_any" "_law_any" s__law_any fA fdA) (gA : mg "_law_any" = some (.ref fA))
    (gi : mg "int" = none) (gl : mg "len" = none) : FnOk P w K mg base CX0 2 f fd ["deal", "some"] (spOf K) := by
  refine F.ok sc__law_of (fun vs H Q E h => ?_) fun cdv A outer s H vs Q E hr h => ⟨_, pss_one (ps_ret (pe_ix ix_list (pv 1)
    (pe_call (ok_any FA gi) hr (by rfl) gA FA.kp (FA.binds fun _ _ _ _ _ _ us hl => match us, hl with | [_, _], _ => rfl) .nil pass0 (pa_cons (pv 0) (pa_cons (pe_callB call_len_seq (by rfl) gl (by decide +kernel) (by exact pa_cons (pv 1) pa_nil)) pa_nil))) (fun _ _ => rfl))), ?_⟩
  · obtain ⟨p, q, a, xs, rfl, _⟩ := h
    rfl
  · obtain ⟨p, q, a, xs, rfl, d, n1, n2, ha, h0, h1, hQ⟩ := h
    refine ⟨.ref a, rfl, .ref p, rfl, .ref a, rfl, a, xs, rfl, Or.inl (SqL.of ha), p, q, _, rfl, d, by omega, by omega, fun H' i d' fx i0 i1 => ?_⟩
    obtain ⟨n, rfl⟩ := Int.eq_ofNat_of_zero_le i0
    have hn : n < xs.length := by omega
    exact ⟨a, xs, n, xs[n], rfl, rfl, SqL.of (fx a _ n1 n2 ha), atI_nat (List.getElem?_eq_getElem hn), hQ H' _ (List.getElem_mem hn) d' fx⟩
end

def spDraw (K : PySem.W.Frag) : Sp := fun vs H Q _ => ∃ (a : Addr) (ns : List Int) (t : Int), vs = [.ref a, .int t] ∧ SqL K H a (ns.map V.int) ∧ 0 ≤ t ∧ t < 10000 ∧
  ∀ H' p q, Same H H' → H p = none → H q = none → Deal H' p q → Q (.ref p) H'
theorem cut48 (ns : List Int) : ∃ ms : List Int, cutV (ns.map V.int) none (some 48) = ms.map V.int ∧ ms.length ≤ 48 := by
  refine ⟨(ns.drop 0).take (HT.sIx ns.length ns.length (some 48) - 0), ?_, ?_⟩
  · unfold cutV
    rw [List.length_map, HT.sIx_none, List.map_take, List.map_drop]
  · rw [List.length_take]
    have : HT.sIx ns.length ns.length (some ((48 : Nat) : Int)) = min 48 ns.length := HT.sIx_nat _ _ 48
    have h2 : (some ((48 : Nat) : Int) : Option Int) = some 48 := rfl
    rw [h2] at this
    rw [this]
    omega
theorem Same.new {H : Hp} {a : Addr} {o : HO} (n : H a = none) : Same H (upd H a o) := fun b u h => by
  rw [upd_ne (fun z => by rw [z, n] at h; cases h)]; exact h
section
variable {P : Program} {w : World} {K : PySem.W.Frag} {mg : Str → Option Value} {base : Heap}
theorem ok_draw {f : Addr} {fd : FuncData} (F : Fun K "_law_draw" "_law_draw" s__law_draw f fd) (gi : mg "int" = none) (gab : mg "abs" = none) :
    FnOk P w K mg base CX0 1 f fd ["script", "salt"] (spDraw K) := by
  refine F.ok sc__law_draw (fun vs H Q E h => ?_) fun cdv A outer s H vs Q E hr h => ⟨_,
    pss_cons (ps_setLc (i := 2) (own := [("cell", 4)]) (g := gName 4) (tt := tYes) rfl sc__law_draw.nd rfl rfl (sw_true rfl rfl rfl (by decide +kernel)) (pi_list (pe_slice sl_list (pv 0) po_none (po_some pe_int)))
        (blkOk_by (N := ["script", "salt", "cells", "blend", "cell"]) (sc := defScope s__law_draw) (by decide +kernel)) (fun _ _ _ _ _ => pg_name (i := 4) sc__law_draw.nd rfl (Or.inl rfl)) (fun _ _ _ _ _ => pts_nil)
        (fun _ _ _ _ _ => pe_callB call_abs (by rfl) gab (by decide +kernel) (pa_cons (pe_callTy call_int1 (by rfl) gi (by decide +kernel) (pa_cons (pv 4) pa_nil)) pa_nil)))
    (pss_cons (ps_set (i := 3) sc__law_draw.nd rfl (.inl rfl) (pe_op op_add pe_int (pe_op op_mul pe_int (pv 1))))
    (pss_cons (ps_for PassesOwn.never rfl (pi_list (pv 2)) (pg_name (i := 4) sc__law_draw.nd rfl (Or.inl rfl))
      (pss_one (ps_set (i := 3) sc__law_draw.nd rfl (.inl rfl) (pe_op op_mod (pe_callTy call_int1 (by rfl) gi (by decide +kernel)
        (pa_cons (pe_op op_add (pe_op op_add (pe_op op_mul (pv 3) pe_int) (pe_op op_mod (pv 4) pe_int)) pe_int) pa_nil)) pe_int))))
    (pss_one (ps_ret (pe_lst (pa_cons (pe_revL (pe_lc (own := [("cell", 4)]) (g := gName 4) (by rfl) sc__law_draw.nd (pi_list (pv 2))
        (blkOk_by (own := [("cell", 4)]) (N := ["script", "salt", "cells", "blend", "cell"]) (sc := defScope s__law_draw) (by decide +kernel)) (fun _ _ _ _ _ => pg_name (i := 4) sc__law_draw.nd rfl (Or.inl rfl))
        (fun _ _ _ _ _ => pts_one (pt_cmpR op_ge (pv 4) (pe_op op_pow pe_int pe_int) (nomark _))) (fun _ _ _ _ _ => pv 4))) (pa_cons (pv 3) pa_nil))))))), ?_⟩
  · obtain ⟨a, ns, t, rfl, _⟩ := h
    rfl
  · obtain ⟨a, ns, t, rfl, ha, t0, t1, hQ⟩ := h
    obtain ⟨ms, hms, hlen⟩ := cut48 ns
    refine ⟨.ref a, rfl, 48, rfl, a, _, rfl, ha, fun c hc => ?_⟩
    rw [hms]
    have S1 : Same H (upd H c (.lst (ms.map V.int))) := Same.new hc
    have h1 : upd H c (.lst (ms.map V.int)) c = some (.lst (ms.map V.int)) := upd_same
    generalize upd H c (.lst (ms.map V.int)) = H1 at S1 h1
    refine ⟨c, rfl, ⟨_, SqL.of h1⟩, fun D hD => ?_⟩
    refine lc_list (xs := ms.map V.int) (fun i H' => Same H1 H' ∧ ∃ cs : List Int, H' D = some (.lst (cs.map V.int)) ∧ cs.length = i ∧ ∀ n ∈ cs, 0 ≤ n)
      ⟨Same.new hD, [], upd_same, rfl, by simp⟩ (fun i H' _ p => SqL.of (p.1 _ _ h1)) (fun i x H' hi p => ?_) (fun H' p => ?_)
    · obtain ⟨s1, cs, hc1, hl, h0⟩ := p
      have hi' := (List.getElem?_eq_some_iff.mp hi).1
      rw [List.length_map] at hi'
      rw [List.getElem?_map] at hi
      obtain ⟨n, _, rfl⟩ := Option.map_eq_some_iff.mp hi
      refine ⟨rfl, .int n, rfl, .inl ⟨n, rfl, n, rfl, cs.map V.int, hc1, ?_, ?_, cs ++ [if n < 0 then -n else n], ?_, ?_, ?_⟩⟩
      · rw [List.length_map]; exact Nat.lt_of_lt_of_le (by omega : cs.length < 48) (by decide)
      · exact fun b o h => by
          rw [upd_ne (fun z => ?_)]
          · exact s1 b o h
          · rw [z, hD] at h; cases h
      · rw [upd_same]; simp
      · simp [hl]
      · intro k hk
        rcases List.mem_append.mp hk with hk | hk
        · exact h0 k hk
        · rw [List.mem_singleton.mp hk]; split <;> omega
    · obtain ⟨s1, cs, hc1, hl, h0⟩ := p
      have hl : cs.length ≤ 48 := by rw [hl, List.length_map]; exact hlen
      have S2 := S1.trans s1
      have hDn : H D = none := S1.free hD
      refine ⟨.int t, rfl, 104729, t, rfl, rfl, .inl ⟨by decide, by decide⟩, 7919, _, rfl, rfl, ?_⟩
      refine ⟨.ref D, rfl, D, rfl, ⟨_, SqL.of hc1⟩, for_list (xs := cs.map V.int) (fun i σ H'' => H'' = H' ∧ ∃ b o, σ = [some (.ref a), some (.int t), some (.ref D), some (.int b), o] ∧ 0 ≤ b ∧ b < 2147483647)
        ⟨rfl, 7919 + 104729 * t, _, rfl, by omega, by omega⟩ (fun i σ H'' _ p => by rw [p.1]; exact SqL.of hc1) (fun i x σ H'' hi p => ?_) (fun σ H'' p => ?_)⟩
      · obtain ⟨rfl, b, o, rfl, b0, b1⟩ := p
        rw [List.getElem?_map] at hi
        obtain ⟨n, _, rfl⟩ := Option.map_eq_some_iff.mp hi
        refine ⟨.int b, rfl, b, 48271, rfl, rfl, .inr ⟨by decide, by decide⟩, .int n, rfl, n, 2147483549, rfl, rfl, (by decide : (0 : Int) < 2147483549), _, _, rfl, rfl, _, 11, rfl, rfl, .inl ⟨_, rfl, _, 2147483647, rfl, rfl, (by decide : (0 : Int) < 2147483647), ?_⟩⟩
        exact ⟨rfl, _, _, rfl, Int.emod_nonneg _ (by decide), Int.emod_lt_of_pos _ (by decide)⟩
      · obtain ⟨rfl, b, o, rfl, b0, b1⟩ := p
        refine ⟨.ref D, rfl, D, rfl, ⟨_, SqL.of hc1⟩, fun D2 hD2 => ?_⟩
        refine lc_list (xs := cs.map V.int) (fun i H2 => Same H'' H2 ∧ ∃ es : List Int, H2 D2 = some (.lst (es.map V.int)) ∧ es.length ≤ i ∧ ∀ n ∈ es, 0 ≤ n)
          ⟨Same.new hD2, [], upd_same, Nat.le_refl _, by simp⟩ (fun i H2 _ p => SqL.of (p.1 _ _ hc1)) (fun i x H2 hi p => ?_) (fun H2 p => ?_)
        · obtain ⟨s1, es, he1, hl, h0'⟩ := p
          have hi' := (List.getElem?_eq_some_iff.mp hi).1
          rw [List.length_map] at hi'
          rw [List.getElem?_map] at hi
          obtain ⟨n, hn, rfl⟩ := Option.map_eq_some_iff.mp hi
          have hmem := List.mem_of_getElem? hn
          refine ⟨rfl, .int n, rfl, 10, 18, rfl, rfl, ⟨by decide, by decide, by decide⟩, n, _, rfl, rfl, _, rfl, ?_⟩
          by_cases hb : decide ((10 : Int) ^ (18 : Int).toNat ≤ n) = true
          · refine iteT' hb ⟨.int n, rfl, es.map V.int, he1, ?_, ?_, es ++ [n], ?_, ?_, ?_⟩
            · rw [List.length_map]; exact Nat.lt_of_lt_of_le (by omega : es.length < 48) (by decide)
            · exact fun b o h => by
                rw [upd_ne (fun z => ?_)]
                · exact s1 b o h
                · rw [z, hD2] at h; cases h
            · rw [upd_same]; simp
            · simp; omega
            · intro k hk
              rcases List.mem_append.mp hk with hk | hk
              · exact h0' k hk
              · rw [List.mem_singleton.mp hk]; exact h0 n hmem
          · exact iteF' (by simpa using hb) ⟨s1, es, he1, by omega, h0'⟩
        · obtain ⟨s1, es, he1, hl2, h0'⟩ := p
          rw [List.length_map] at hl2
          refine ⟨D2, _, rfl, SqL.of he1, fun q hq => ?_⟩
          refine ⟨.int b, rfl, by show 2 ≤ sizeLine; decide, fun p hp => ?_⟩
          have S3 := (S2.trans s1).trans (Same.new (o := .lst (es.map V.int).reverse) hq)
          have hqp : p ≠ q := fun z => by rw [z, upd_same] at hp; cases hp
          refine hQ _ p q (S3.trans (Same.new hp)) ((S3).free hp) ((S2.trans s1).free hq) ⟨es.reverse, b, upd_same, ?_, hqp, fun n hn => h0' n (by simpa using hn), by simp; omega, b0, b1⟩
          rw [upd_ne (Ne.symm hqp), upd_same, List.map_reverse]
end
end K04

namespace K04
open PySem PySem.Spec PyProof.Rows L2 KX
/-! ### classes of values -/
theorem tyx_same {K : PySem.W.Frag} {H H' : Hp} {x : V} {t : Value} (h : TyX K H x t) (s : Same H H') : TyX K H' x t := by
  cases h with
  | base h =>
    refine .base ?_
    cases h with
    | lst e => exact .lst (s _ _ e)
    | frz e => exact .frz (s _ _ e)
    | tup e => exact .tup (s _ _ e)
    | dK e => exact .dK (s _ _ e)
    | dT e => exact .dT (s _ _ e)
    | ins e a b c d f => exact .ins (s _ _ e) a b c d f
    | _ => constructor
  | byt b => exact .byt b
  | set e => exact .set (s _ _ e)
  | kList e c => exact .kList e c
  | kTuple e c => exact .kTuple e c
  | kDict e c => exact .kDict e c
  | fTuple e => exact .fTuple (s _ _ e)
  | fDict e => exact .fDict (s _ _ e)
theorem kin_same {K : PySem.W.Frag} {H H' : Hp} {x : V} {o : Option Int} (h : Kin K H x o) (s : Same H H') : Kin K H' x o := by
  cases h with
  | int i => exact .int i
  | oth t h1 h2 h3 => exact .oth (tyx_same t s) h1 h2 h3
theorem kins_same {K : PySem.W.Frag} {H H' : Hp} {xs : List V} {os : List (Option Int)} (h : Paired (Kin K H) xs os) (s : Same H H') : Paired (Kin K H') xs os := by
  induction h with
  | nil => exact .nil
  | cons a _ ih => exact .cons (kin_same a s) ih
inductive SqX (K : PySem.W.Frag) (H : Hp) : V → Option (List V) → Prop
  | lst {a : Addr} {xs : List V} (h : H a = some (.lst xs)) : SqX K H (.ref a) (some xs)
  | tup {a : Addr} {xs : List V} (h : Tup H a xs) : SqX K H (.ref a) (some xs)
  | oth {x : V} {n : String} (t : TyX K H x (.type n)) (h1 : kitB n "list" = some false) (h2 : kitB n "tuple" = some false) : SqX K H x none
theorem sqx_same {K : PySem.W.Frag} {H H' : Hp} {x : V} {o : Option (List V)} (h : SqX K H x o) (s : Same H H') : SqX K H' x o := by
  cases h with
  | lst h => exact .lst (s _ _ h)
  | tup h => exact .tup (h.same s)
  | oth t h1 h2 => exact .oth (tyx_same t s) h1 h2
theorem SqX.ty {K : PySem.W.Frag} {H : Hp} {x : V} {o : Option (List V)} (h : SqX K H x o) : ∃ n b1 b2, TyX K H x (.type n) ∧ kitB n "list" = some b1 ∧ kitB n "tuple" = some b2 ∧ (b1 || b2) = o.isSome := by
  cases h with
  | lst h => exact ⟨"list", true, false, .base (.lst h), by decide +kernel, by decide +kernel, rfl⟩
  | tup h => exact ⟨"tuple", false, true, h.ty, by decide +kernel, by decide +kernel, rfl⟩
  | oth t h1 h2 => exact ⟨_, _, _, t, h1, h2, rfl⟩
theorem kit_any {K : PySem.W.Frag} {n : String} {b1 b2 : Bool} (h1 : kitB n "list" = some b1) (h2 : kitB n "tuple" = some b2) :
    PySem.W.kitAny K (.type n) [.type "list", .type "tuple"] = some (b1 || b2) := by
  have k1 : PySem.W.kitOne K (.type n) (.type "list") = some b1 := kit_ty h1
  have k2 : PySem.W.kitOne K (.type n) (.type "tuple") = some b2 := kit_ty h2
  unfold PySem.W.kitAny
  rw [k1]
  cases b1 with
  | true => rfl
  | false =>
    show PySem.W.kitAny K (.type n) [.type "tuple"] = some b2
    unfold PySem.W.kitAny
    rw [k2]
    cases b2 <;> rfl
def numB : Option Int → Bool
  | some i => decide (0 ≤ i)
  | none => false
def belB (o : Option Int) (n : Int) : Bool := match o with
  | some i => decide (0 ≤ i) && decide (i < n)
  | none => false
abbrev bel4 (o : Option Int) : Bool := belB o 4
/-! ### what the defs do -/
def spIsInt (K : PySem.W.Frag) : Sp := fun vs H Q _ => ∃ x o, vs = [x] ∧ Kin K H x o ∧ Q (.bl o.isSome) H
def spNum (K : PySem.W.Frag) : Sp := fun vs H Q _ => ∃ x o, vs = [x] ∧ Kin K H x o ∧ Q (.bl (numB o)) H
def spBelow (K : PySem.W.Frag) : Sp := fun vs H Q _ => ∃ x o, ∃ n : Int, vs = [x, .int n] ∧ Kin K H x o ∧ Q (.bl (belB o n)) H
def spMode (K : PySem.W.Frag) : Sp := fun vs H Q _ => ∃ x o, vs = [x] ∧ Kin K H x o ∧ Q (.bl (bel4 o)) H
def spSeq (K : PySem.W.Frag) : Sp := fun vs H Q _ => ∃ x o, vs = [x] ∧ SqX K H x o ∧ ∀ H', Same H H' → Q (.bl o.isSome) H'
section
variable {P : Program} {w : World} {K : PySem.W.Frag} {mg : Str → Option Value} {base : Heap} {f1 f2 f3 : Addr} {d1 d2 d3 : FuncData} {f : Addr} {fd : FuncData}
theorem ok_int (F : Fun K "is_integer" "is_integer" s_is_integer f fd) (gI : mg "isinstance" = none)
    (gi : mg "int" = none) (gb : mg "bool" = none) : FnOk P w K mg base CX0 1 f fd ["value"] (spIsInt K) := by
  refine F.ok sc_is_integer (fun vs H Q E h => ?_) fun cdv A outer s H vs Q E hr h => ⟨_, pss_one (ps_ret (pe_and
      (pe_callB call_isi (by rfl) gI (by decide +kernel) (by exact pa_cons (pv 0) (pa_cons (pe_bltn (v := .ty "int") rfl gi (by decide +kernel) rfl) pa_nil)))
      (pe_one (pe_not (pe_callB call_isi (by rfl) gI (by decide +kernel)
        (by exact pa_cons (pv 0) (pa_cons (pe_bltn (v := .ty "bool") rfl gb (by decide +kernel) rfl) pa_nil))))))), ?_⟩
  · obtain ⟨x, o, rfl, _⟩ := h
    rfl
  · obtain ⟨x, o, rfl, hk, hQ⟩ := h
    obtain ⟨n, b1, b2, ty, k1, k2, e⟩ := hk.ty
    refine ⟨_, rfl, x, .ty "int", _, _, b1, rfl, .ty "int", ty, kit_ty k1, b1, rfl, ?_⟩
    rw [← e] at hQ
    cases b1 with
    | false => exact iteF hQ
    | true => exact iteT ⟨_, rfl, x, .ty "bool", _, _, b2, rfl, .ty "bool", ty, kit_ty k2, b2, rfl, hQ⟩
theorem ok_num (F : Fun K "is_number" "is_number" s_is_number f fd) (F1 : Fun K "is_integer" "is_integer" s_is_integer f1 d1) (G1 : FnOk P w K mg base CX0 1 f1 d1 ["value"] (spIsInt K))
    (g1 : mg "is_integer" = some (.ref f1)) : FnOk P w K mg base CX0 2 f fd ["value"] (spNum K) := by
  refine F.ok sc_is_number (fun vs H Q E h => ?_) fun cdv A outer s H vs Q E hr h => ⟨_, pss_one (ps_ret (pe_and
      (pe_call G1 hr (by rfl) g1 F1.kp (F1.binds fun _ _ _ _ _ _ us hl => match us, hl with | [_], _ => rfl) .nil pass0 (by exact pa_cons (pv 0) pa_nil))
      (pe_one (pe_cmpR op_ge (pv 0) pe_int (nomark _))))), ?_⟩
  · obtain ⟨x, o, rfl, _⟩ := h
    rfl
  · obtain ⟨x, o, rfl, hk, hQ⟩ := h
    refine ⟨x, rfl, x, o, rfl, hk, o.isSome, rfl, ?_⟩
    cases hk with
    | int i => exact iteT ⟨.int i, rfl, i, 0, rfl, rfl, hQ⟩
    | oth t h1 h2 h3 => exact iteF hQ
theorem ok_below (F : Fun K "is_below" "is_below" s_is_below f fd) (F1 : Fun K "is_number" "is_number" s_is_number f1 d1) (G1 : FnOk P w K mg base CX0 2 f1 d1 ["value"] (spNum K))
    (g1 : mg "is_number" = some (.ref f1)) : FnOk P w K mg base CX0 3 f fd ["value", "limit"] (spBelow K) := by
  refine F.ok sc_is_below (fun vs H Q E h => ?_) fun cdv A outer s H vs Q E hr h => ⟨_, pss_one (ps_ret (pe_and
      (pe_call G1 hr (by rfl) g1 F1.kp (F1.binds fun _ _ _ _ _ _ us hl => match us, hl with | [_], _ => rfl) .nil pass0 (by exact pa_cons (pv 0) pa_nil))
      (pe_one (pe_cmpR op_lt (pv 0) (pv 1) (nomark _))))), ?_⟩
  · obtain ⟨x, o, n, rfl, _⟩ := h
    rfl
  · obtain ⟨x, o, n, rfl, hk, hQ⟩ := h
    refine ⟨x, rfl, x, o, rfl, hk, numB o, rfl, ?_⟩
    cases hk with
    | int i =>
      have e : belB (some i) n = (decide (0 ≤ i) && decide (i < n)) := rfl
      rw [e] at hQ
      by_cases h0 : 0 ≤ i
      · rw [decide_eq_true h0, Bool.true_and] at hQ
        exact iteT' (decide_eq_true h0) ⟨.int i, rfl, .int n, rfl, i, n, rfl, rfl, hQ⟩
      · rw [decide_eq_false h0, Bool.false_and] at hQ
        exact iteF' (decide_eq_false h0) hQ
    | oth t h1 h2 h3 => exact iteF hQ
theorem ok_mode (F : Fun K "is_mode" "is_mode" s_is_mode f fd) (F1 : Fun K "is_below" "is_below" s_is_below f1 d1) (G1 : FnOk P w K mg base CX0 3 f1 d1 ["value", "limit"] (spBelow K))
    (g1 : mg "is_below" = some (.ref f1)) {t : Tok} (gm : mg "MOST_MODES" = some (.int 4 t)) : FnOk P w K mg base CX0 4 f fd ["value"] (spMode K) := by
  refine F.ok sc_is_mode (fun vs H Q E h => ?_) fun cdv A outer s H vs Q E hr h => ⟨_, pss_one (ps_ret
      (pe_call G1 hr (by rfl) g1 F1.kp (F1.binds fun _ _ _ _ _ _ us hl => match us, hl with | [_, _], _ => rfl) .nil pass0 (by exact pa_cons (pv 0) (pa_cons (pe_glob (v := .int 4) rfl gm ⟨_, rfl⟩) pa_nil)))), ?_⟩
  · obtain ⟨x, o, rfl, _⟩ := h
    rfl
  · obtain ⟨x, o, rfl, hk, hQ⟩ := h
    exact ⟨x, rfl, x, o, 4, rfl, hk, hQ⟩
theorem ok_seq (F : Fun K "is_sequence" "is_sequence" s_is_sequence f fd) (gI : mg "isinstance" = none) (gl : mg "list" = none) (gt : mg "tuple" = none) :
    FnOk P w K mg base CX0 1 f fd ["value"] (spSeq K) := by
  refine F.ok sc_is_sequence (fun vs H Q E h => ?_) fun cdv A outer s H vs Q E hr h => ⟨_, pss_one (ps_ret
      (pe_callB call_isiT (by rfl) gI (by decide +kernel) (by exact pa_cons (pv 0) (pa_cons (pe_tup (pa_cons (pe_bltn (v := .ty "list") rfl gl (by decide +kernel) rfl)
        (pa_cons (pe_bltn (v := .ty "tuple") rfl gt (by decide +kernel) rfl) pa_nil))) pa_nil)))), ?_⟩
  · obtain ⟨x, o, rfl, _⟩ := h
    rfl
  · obtain ⟨x, o, rfl, hk, hQ⟩ := h
    refine ⟨x, rfl, by show 2 ≤ sizeLine; decide, fun p hp => ?_⟩
    have S : Same H (upd H p (.tup [.ty "list", .ty "tuple"])) := Same.new hp
    obtain ⟨n, b1, b2, ty, k1, k2, e⟩ := (sqx_same hk S).ty
    refine ⟨x, p, _, _, [.type "list", .type "tuple"], b1 || b2, rfl, upd_same, .cons (.ty "list") (.cons (.ty "tuple") .nil), ty, kit_any k1 k2, ?_⟩
    rw [e]
    exact hQ _ S
end
section
variable {P : Program} {w : World} {K : PySem.W.Frag} {mg : Str → Option Value} {base : Heap} (T : TX K mg)
theorem G_is_integer : FnOk P w K mg base CX0 1 T.f_is_integer T.d_is_integer ["value"] (spIsInt K) := ok_int T.F_is_integer T.n_isinstance T.n_int T.n_bool
theorem G_is_number : FnOk P w K mg base CX0 2 T.f_is_number T.d_is_number ["value"] (spNum K) := ok_num T.F_is_number T.F_is_integer (G_is_integer T) T.m_is_integer
theorem G_is_below : FnOk P w K mg base CX0 3 T.f_is_below T.d_is_below ["value", "limit"] (spBelow K) := ok_below T.F_is_below T.F_is_number (G_is_number T) T.m_is_number
theorem G_is_mode : FnOk P w K mg base CX0 4 T.f_is_mode T.d_is_mode ["value"] (spMode K) := ok_mode T.F_is_mode T.F_is_below (G_is_below T) T.m_is_below T.m_MOST_MODES
theorem G_is_sequence : FnOk P w K mg base CX0 1 T.f_is_sequence T.d_is_sequence ["value"] (spSeq K) := ok_seq T.F_is_sequence T.n_isinstance T.n_list T.n_tuple
theorem G__law_any : FnOk P w K mg base CX0 1 T.f__law_any T.d__law_any ["deal", "bound"] spAny := ok_any T.F__law_any T.n_int
theorem G__law_of : FnOk P w K mg base CX0 2 T.f__law_of T.d__law_of ["deal", "some"] (spOf K) := ok_of T.F__law_of T.F__law_any T.m__law_any T.n_int T.n_len
theorem G__law_draw : FnOk P w K mg base CX0 1 T.f__law_draw T.d__law_draw ["script", "salt"] (spDraw K) := ok_draw T.F__law_draw T.n_int T.n_abs
end
end K04

namespace KX
open PySem PySem.Spec PyProof.Rows L2
theorem PG.or {X : Cx} {tg : Expr} {w1 w2 : TG} (h1 : PG X tg w1) (h2 : PG X tg w2) : PG X tg (fun v σ H Q => w1 v σ H Q ∨ w2 v σ H Q) :=
  ⟨fun pins s σ H v u Q I r h => h.elim (h1.run pins s σ H v u Q I r) (h2.run pins s σ H v u Q I r)⟩
theorem inV_ints (b : Int) : ∀ row : List Int, inV (.int b) (row.map V.int) = decide (b ∈ row)
  | [] => rfl
  | x :: row => by
    have h := inV_ints b row
    show (eqV (.int x) (.int b) || inV (.int b) (row.map V.int)) = _
    rw [h]
    have e : eqV (.int x) (.int b) = decide (x = b) := by
      first
        | rfl
        | (simp [eqV])
    rw [e]
    by_cases z : x = b
    · simp [z]
    · have z' : ¬ b = x := fun q => z q.symm
      simp [z, z']
theorem flat_ints : ∀ row : List Int, (row.map V.int).all flatV = true
  | [] => rfl
  | x :: row => by
    show (flatV (.int x) && (row.map V.int).all flatV) = true
    rw [flat_ints row]; rfl
theorem rd_notInI {K : PySem.W.Frag} {H : Hp} {p : Addr} {row : List Int} {b : Int} {Q : VK} (ha : SqL K H p (row.map V.int) ∨ SqT K H p (row.map V.int)) (h : Q (.bl (!decide (b ∈ row))) H) : rIn K true (.int b) (.ref p) H Q :=
  ⟨p, _, rfl, ha, rfl, flat_ints row, by rw [inV_ints]; exact h⟩
theorem rd_inI {K : PySem.W.Frag} {H : Hp} {p : Addr} {row : List Int} {b : Int} {Q : VK} (ha : SqL K H p (row.map V.int) ∨ SqT K H p (row.map V.int)) (h : Q (.bl (decide (b ∈ row))) H) : rIn K false (.int b) (.ref p) H Q :=
  ⟨p, _, rfl, ha, rfl, flat_ints row, by rw [inV_ints]; exact h⟩
end KX
namespace K04
open PySem PySem.Spec PyProof.Rows L2 KX
local macro_rules | `(tactic| walk_at "rd1") => `(tactic| first
  | with_reducible refine rd_seq ?_
  | with_reducible refine rd_asg ?_
  | ((with_reducible refine' rd_var ?rdv ?_); (case rdv => exact rfl))
  | with_reducible refine rd_c ?_
  | with_reducible refine rd_op ?_
  | with_reducible refine rd_un ?_
  | with_reducible refine rd_cons ?_
  | with_reducible refine rd_nil ?_
  | with_reducible refine rd_call ?_
  | with_reducible refine rd_cb ?_
  | with_reducible refine rd_tB ?_
  | with_reducible refine rd_test ?_
  | with_reducible refine rd_bl ?_
  | with_reducible refine rd_rI0 ?_
  | with_reducible refine rd_eqI ?_
  | with_reducible refine rd_neI ?_
  | with_reducible refine rd_rU ?_
  | with_reducible refine rd_name ?_
  | with_reducible refine rd_ifs ?_
  | with_reducible refine rd_and ?_
  | with_reducible refine rd_or ?_
  | with_reducible refine rd_not ?_
  | with_reducible refine rd_yes ?_
  | with_reducible refine rd_andV ?_
  | with_reducible refine rd_orV ?_
  | with_reducible refine rd_notV ?_
  | with_reducible refine rd_if ?_
  | with_reducible refine rd_isN ?_
  | with_reducible refine rd_iT ?_
  | with_reducible refine rd_iF ?_
  | with_reducible refine rd_ret ?_
  | with_reducible refine rd_retN ?_
  | with_reducible refine rd_drop ?_
  | with_reducible refine rd_next ?_
  | with_reducible refine rd_cont ?_
  | with_reducible refine rd_brk ?_
  | with_reducible refine rd_nx ?_
  | with_reducible refine rd_rt ?_
  | with_reducible refine rd_ct ?_
  | with_reducible refine rd_bk ?_
  | with_reducible refine rd_par ?_
  | with_reducible refine rd_par3 ?_
  | with_reducible refine rd_par2 ?_
  | with_reducible refine rd_par33 ?_
  | with_reducible refine rd_gcons ?_
  | with_reducible refine rd_gnil ?_
  | with_reducible refine rd_sub ?_
  | with_reducible refine rd_tup ?_
  | with_reducible refine rd_lst ?_
  | ((with_reducible refine rd_tupT ?hl ?_); (case hl => exact Nat.le_of_ble_eq_true rfl))
  | ((with_reducible refine rd_lstT ?hl ?_); (case hl => exact Nat.le_of_ble_eq_true rfl))
  | with_reducible refine rd_bm ?_
  | with_reducible refine rd_bm0 ?_
  | with_reducible refine rd_sl ?_
  | with_reducible refine rd_noP ?_
  | with_reducible refine rd_part ?_
  | with_reducible refine rd_int ?_
  | with_reducible refine rd_int1 ?_
  | with_reducible refine rd_fld ?_
  | with_reducible refine rd_then ?_
  | with_reducible refine rd_raise ?_
  | with_reducible refine rd_one ?_
  | with_reducible refine rd_sfld ?_
  | with_reducible refine rd_ilist ?_
  | with_reducible refine rd_itup ?_
  | with_reducible refine rd_rng1 ?_
  | with_reducible refine rd_enum ?_
  | with_reducible refine rd_enumT ?_)
local macro_rules | `(tactic| walk_at "rd") => `(tactic| repeat (walk_at "rd1"))
/-! ### the rows of neighbours -/
def rowOf (R : List (List Int)) (a : Int) : List Int := R.getD a.toNat []
def okL (R : List (List Int)) : Option (Int × Int) → Bool
  | none => false
  | some (a, b) => !decide (b ∈ rowOf R a) && (decide ((rowOf R a).length < 4) && decide ((rowOf R b).length < 4))
def appR (R : List (List Int)) (a b : Int) : List (List Int) := R.set a.toNat (rowOf R a ++ [b])
def addR (R : List (List Int)) : Option (Int × Int) → List (List Int)
  | none => R
  | some (a, b) => appR (appR R a b) b a
/-- one entry more, if it can be linked -/
def stepL (R : List (List Int)) (e : Option (Int × Int)) : Option (List (List Int)) := if okL R e = true then some (addR R e) else none
def runP (R : List (List Int)) : List (Option (Int × Int)) → Option (List (List Int))
  | [] => some R
  | e :: es => (stepL R e).bind fun R' => runP R' es
/-- the rows stand at rs -/
structure Rows (H : Hp) (N : Addr) (rs : List Addr) (R : List (List Int)) : Prop where
  at_ : H N = some (.lst (rs.map V.ref))
  rows : Paired (fun r (row : List Int) => H r = some (.lst (row.map V.int))) rs R
  nd : rs.Nodup
  out : N ∉ rs
theorem Rows.same {H H' : Hp} {N : Addr} {rs : List Addr} {R : List (List Int)} (h : Rows H N rs R) (s : Same H H') : Rows H' N rs R :=
  ⟨s _ _ h.at_, by
    have h2 := h.rows
    clear h
    induction h2 with
    | nil => exact .nil
    | cons a _ ih => exact .cons (s _ _ a) ih, h.nd, h.out⟩
/-- what an entry of the links is, among n sites -/
inductive LkIs (K : PySem.W.Frag) (H : Hp) (n : Nat) : V → Option (Int × Int) → Prop
  | seq {x : V} (s : SqX K H x none) : LkIs K H n x none
  | len {x : V} {xs : List V} (s : SqX K H x (some xs)) (l : xs.length ≠ 2) : LkIs K H n x none
  | fst {x y z : V} {o : Option Int} (s : SqX K H x (some [y, z])) (k : Kin K H y o) (b : belB o n = false) : LkIs K H n x none
  | snd {x y z : V} {o o' : Option Int} (s : SqX K H x (some [y, z])) (k : Kin K H y o) (k' : Kin K H z o') (b : belB o' n = false) : LkIs K H n x none
  | eq {x : V} {a : Int} (s : SqX K H x (some [.int a, .int a])) (a0 : 0 ≤ a) (a1 : a < n) : LkIs K H n x none
  | ok {x : V} {a b : Int} (s : SqX K H x (some [.int a, .int b])) (a0 : 0 ≤ a) (a1 : a < n) (b0 : 0 ≤ b) (b1 : b < n) (ne : a ≠ b) : LkIs K H n x (some (a, b))
theorem LkIs.same {K : PySem.W.Frag} {H H' : Hp} {n : Nat} {x : V} {e : Option (Int × Int)} (h : LkIs K H n x e) (s : Same H H') : LkIs K H' n x e := by
  cases h with
  | seq h => exact .seq (sqx_same h s)
  | len h l => exact .len (sqx_same h s) l
  | fst h k b => exact .fst (sqx_same h s) (kin_same k s) b
  | snd h k k' b => exact .snd (sqx_same h s) (kin_same k s) (kin_same k' s) b
  | eq h a b => exact .eq (sqx_same h s) a b
  | ok h a b c d e => exact .ok (sqx_same h s) a b c d e
theorem belB_true {a : Int} {n : Nat} (h0 : 0 ≤ a) (h1 : a < n) : belB (some a) n = true := by
  show (decide (0 ≤ a) && decide (a < (n : Int))) = true
  rw [decide_eq_true h0, decide_eq_true h1]; rfl
theorem SqX.any {K : PySem.W.Frag} {H : Hp} {x : V} {xs : List V} (h : SqX K H x (some xs)) : ∃ a, x = .ref a ∧ (SqL K H a xs ∨ SqT K H a xs) := by
  cases h with
  | lst h => exact ⟨_, rfl, .inl (SqL.of h)⟩
  | tup h => exact ⟨_, rfl, .inr h.sq⟩
theorem SqX.unp {K : PySem.W.Frag} {H : Hp} {a : Addr} {xs : List V} {n : Nat} {t : TGs} {σ : L2.St} {Q : L2.St → Hp → Prop} (h : SqX K H (.ref a) (some xs)) (e : xs.length = n) (q : t xs σ H Q) : gTup K n t (.ref a) σ H Q ∨ gLst K n t (.ref a) σ H Q := by
  cases h with
  | lst h => exact .inr (rd_glst h e q)
  | tup h => exact .inl (rd_gtup h e q)
def spCan (K : PySem.W.Frag) : Sp := fun vs H Q _ => ∃ (N : Addr) (rs : List Addr) (R : List (List Int)) (x : V) (e : Option (Int × Int)), vs = [.ref N, x] ∧ Rows H N rs R ∧ LkIs K H rs.length x e ∧
  ∀ H', Same H H' → Q (.bl (okL R e)) H'
theorem rowOf_get {R : List (List Int)} {a : Int} (h1 : a.toNat < R.length) : R[a.toNat]? = some (rowOf R a) := by
  unfold rowOf
  rw [List.getD_eq_getElem?_getD, List.getElem?_eq_getElem h1]; rfl
theorem Rows.get {H : Hp} {N : Addr} {rs : List Addr} {R : List (List Int)} (h : Rows H N rs R) {a : Int} (a0 : 0 ≤ a) (a1 : a < rs.length) :
    ∃ r, rs[a.toNat]? = some r ∧ H r = some (.lst ((rowOf R a).map V.int)) ∧ atI (rs.map V.ref) a = some (.ref r) := by
  have hl : a.toNat < rs.length := by omega
  have e := List.getElem?_eq_getElem hl
  have z : rs.length = R.length := Paired.length h.rows
  refine ⟨rs[a.toNat], e, ?_, ?_⟩
  · have q := h.rows
    obtain ⟨y, hy, hq⟩ : ∃ y, R[a.toNat]? = some y ∧ H rs[a.toNat] = some (.lst (y.map V.int)) := by
      have gen : ∀ {l : List Addr} {m : List (List Int)}, Paired (fun r (row : List Int) => H r = some (.lst (row.map V.int))) l m → ∀ i (h : i < l.length), ∃ y, m[i]? = some y ∧ H l[i] = some (.lst (y.map V.int)) := by
        intro l m p
        induction p with
        | nil => intro i h; simp at h
        | @cons x y l m hxy _ ih =>
          intro i h
          cases i with
          | zero => exact ⟨y, rfl, hxy⟩
          | succ j => exact ih j (by simpa using h)
      exact gen q a.toNat hl
    rw [rowOf_get (by omega)] at hy
    cases hy
    exact hq
  · obtain ⟨n, rfl⟩ := Int.eq_ofNat_of_zero_le a0
    have e' : rs[n]? = some rs[n] := e
    exact atI_nat (by rw [List.getElem?_map, e']; rfl)
section
variable {P : Program} {w : World} {K : PySem.W.Frag} {mg : Str → Option Value} {base : Heap} (T : TX K mg)
theorem G_can_link : FnOk P w K mg base CX0 4 T.f_can_link T.d_can_link ["near", "link"] (spCan K) := by
  refine T.F_can_link.ok sc_can_link (fun vs H Q E h => ?_) fun cdv A outer s H vs Q E hr h => ⟨_, (pss_cons (ps_if (PW.pt (pw_or (pt_not (pt_val (pe_call (G_is_sequence T) (hr.mono (by decide)) (by rfl) T.m_is_sequence T.F_is_sequence.kp T.b_is_sequence .nil pass0 (by exact (pa_cons (pv 1) pa_nil))))) (pw_or1 (pt_cmpR op_ne (pe_callB (cr_lenK (K := K)) (by rfl) T.n_len (by decide +kernel) (by exact (pa_cons (pv 1) pa_nil))) pe_int (nomark _))))) (pss_one (ps_ret pe_bl)) pss_nil) (pss_cons (ps_asg (pv 1) (KX.PG.or (pg_tupK (K := K) (n := 2) (by rfl) (pgs_cons (pg_name (i := 2) sc_can_link.nd rfl (.inl rfl)) (pgs_cons (pg_name (i := 3) sc_can_link.nd rfl (.inl rfl)) pgs_nil))) (pg_lstK (K := K) (n := 2) (by rfl) (pgs_cons (pg_name (i := 2) sc_can_link.nd rfl (.inl rfl)) (pgs_cons (pg_name (i := 3) sc_can_link.nd rfl (.inl rfl)) pgs_nil))))) (pss_cons (ps_if (PW.pt (pw_or (pt_not (pt_val (pe_call (G_is_below T) (hr.mono (by decide)) (by rfl) T.m_is_below T.F_is_below.kp T.b_is_below .nil pass0 (by exact (pa_cons (pv 2) (pa_cons (pe_callB (cr_lenK (K := K)) (by rfl) T.n_len (by decide +kernel) (by exact (pa_cons (pv 0) pa_nil))) pa_nil)))))) (pw_or (pt_not (pt_val (pe_call (G_is_below T) (hr.mono (by decide)) (by rfl) T.m_is_below T.F_is_below.kp T.b_is_below .nil pass0 (by exact (pa_cons (pv 3) (pa_cons (pe_callB (cr_lenK (K := K)) (by rfl) T.n_len (by decide +kernel) (by exact (pa_cons (pv 0) pa_nil))) pa_nil)))))) (pw_or1 (pt_cmpR op_eq (pv 2) (pv 3) (nomark _)))))) (pss_one (ps_ret pe_bl)) pss_nil) (pss_one (ps_ret (pe_and (pe_cmpR (op_notInK (K := K)) (pv 3) (pe_ix (ix_listK (K := K)) (pv 0) (pv 2) (fun _ _ => rfl)) (by rfl)) (pe_and (pe_cmpR op_lt (pe_callB (cr_lenK (K := K)) (by rfl) T.n_len (by decide +kernel) (by exact (pa_cons (pe_ix (ix_listK (K := K)) (pv 0) (pv 2) (fun _ _ => rfl)) pa_nil))) (pe_glob (v := .int 4) rfl T.m_MOST_NEIGHBOURS ⟨_, rfl⟩) (nomark _)) (pe_one (pe_cmpR op_lt (pe_callB (cr_lenK (K := K)) (by rfl) T.n_len (by decide +kernel) (by exact (pa_cons (pe_ix (ix_listK (K := K)) (pv 0) (pv 3) (fun _ _ => rfl)) pa_nil))) (pe_glob (v := .int 4) rfl T.m_MOST_NEIGHBOURS ⟨_, rfl⟩) (nomark _)))))))))), ?_⟩
  · obtain ⟨N, rs, R, x, e, rfl, _⟩ := h
    rfl
  · obtain ⟨N, rs, R, x, e, rfl, hR, hx, hQ⟩ := h
    cases hx with
    | seq h =>
      walk_at "rd"
      refine ⟨_, _, rfl, h, fun H1 S1 => ?_⟩
      walk_at "rd"
      exact hQ H1 S1
    | @len xs h l =>
      walk_at "rd"
      refine ⟨_, _, rfl, h, fun H1 S1 => ?_⟩
      have h1 := sqx_same h S1
      walk_at "rd"
      refine rd_iF ?_
      walk_at "rd"
      obtain ⟨a, rfl, hs⟩ := h1.any
      refine rd_lenB hs ?_
      walk_at "rd"
      refine iteT' (by simp; omega) ?_
      walk_at "rd"
      exact hQ H1 S1
    | @fst y z o h k b =>
      walk_at "rd"
      refine ⟨_, _, rfl, h, fun H1 S1 => ?_⟩
      have h1 := sqx_same h S1
      have hR1 := hR.same S1
      walk_at "rd"
      refine rd_iF ?_
      walk_at "rd"
      obtain ⟨a, rfl, hs⟩ := h1.any
      refine rd_lenB hs ?_
      walk_at "rd"
      refine iteF' rfl ?_
      walk_at "rd"
      refine h1.unp rfl ?_
      walk_at "rd"
      refine rd_len hR1.at_ ?_
      walk_at "rd"
      refine ⟨_, _, _, rfl, kin_same k S1, ?_⟩
      walk_at "rd"
      rw [List.length_map, b]
      walk_at "rd"
      exact hQ H1 S1
    | snd h k k' b => 
      walk_at "rd"
      refine ⟨_, _, rfl, h, fun H1 S1 => ?_⟩
      have h1 := sqx_same h S1
      have hR1 := hR.same S1
      walk_at "rd"
      refine rd_iF ?_
      walk_at "rd"
      obtain ⟨a, rfl, hs⟩ := h1.any
      refine rd_lenB hs ?_
      walk_at "rd"
      refine iteF' rfl ?_
      walk_at "rd"
      refine h1.unp rfl ?_
      walk_at "rd"
      refine rd_len hR1.at_ ?_
      walk_at "rd"
      refine ⟨_, _, _, rfl, kin_same k S1, ?_⟩
      walk_at "rd"
      rw [List.length_map]
      cases belB _ _ with
      | false => walk_at "rd"; exact hQ H1 S1
      | true =>
        refine rd_iF ?_
        walk_at "rd"
        refine rd_len hR1.at_ ?_
        walk_at "rd"
        refine ⟨_, _, _, rfl, kin_same k' S1, ?_⟩
        walk_at "rd"
        rw [List.length_map, b]
        walk_at "rd"
        exact hQ H1 S1
    | @eq a h a0 a1 =>
      have ba := belB_true a0 a1
      walk_at "rd"
      refine ⟨_, _, rfl, h, fun H1 S1 => ?_⟩
      have h1 := sqx_same h S1
      have hR1 := hR.same S1
      walk_at "rd"
      refine rd_iF ?_
      walk_at "rd"
      obtain ⟨p, rfl, hs⟩ := h1.any
      refine rd_lenB hs ?_
      walk_at "rd"
      refine iteF' rfl ?_
      walk_at "rd"
      refine h1.unp rfl ?_
      walk_at "rd"
      refine rd_len hR1.at_ ?_
      walk_at "rd"
      refine ⟨_, _, _, rfl, .int a, ?_⟩
      walk_at "rd"
      rw [List.length_map, ba]
      refine rd_iF ?_
      walk_at "rd"
      refine rd_len hR1.at_ ?_
      walk_at "rd"
      refine ⟨_, _, _, rfl, .int a, ?_⟩
      walk_at "rd"
      rw [List.length_map, ba]
      refine rd_iF ?_
      walk_at "rd"
      refine iteT' (by simp) ?_
      walk_at "rd"
      exact hQ H1 S1
    | @ok a b h a0 a1 b0 b1 ne =>
      have ba := belB_true a0 a1
      have bb := belB_true b0 b1
      walk_at "rd"
      refine ⟨_, _, rfl, h, fun H1 S1 => ?_⟩
      have h1 := sqx_same h S1
      have hR1 := hR.same S1
      walk_at "rd"
      refine rd_iF ?_
      walk_at "rd"
      obtain ⟨p, rfl, hs⟩ := h1.any
      refine rd_lenB hs ?_
      walk_at "rd"
      refine iteF' rfl ?_
      walk_at "rd"
      refine h1.unp rfl ?_
      walk_at "rd"
      refine rd_len hR1.at_ ?_
      walk_at "rd"
      refine ⟨_, _, _, rfl, .int a, ?_⟩
      walk_at "rd"
      rw [List.length_map, ba]
      refine rd_iF ?_
      walk_at "rd"
      refine rd_len hR1.at_ ?_
      walk_at "rd"
      refine ⟨_, _, _, rfl, .int b, ?_⟩
      walk_at "rd"
      rw [List.length_map, bb]
      refine rd_iF ?_
      walk_at "rd"
      refine iteF' (by simpa using ne) ?_
      walk_at "rd"
      obtain ⟨ra, _, hra, ata⟩ := hR1.get a0 a1
      obtain ⟨rb, _, hrb, atb⟩ := hR1.get b0 b1
      refine rd_ixL hR1.at_ ata ?_
      refine rd_notInI (.inl (SqL.of hra)) ?_
      walk_at "rd"
      have e0 : okL R (some (a, b)) = (!decide (b ∈ rowOf R a) && (decide ((rowOf R a).length < 4) && decide ((rowOf R b).length < 4))) := rfl
      have hQ := hQ H1 S1
      rw [e0] at hQ
      by_cases h1 : b ∈ rowOf R a
      · have z : (!decide (b ∈ rowOf R a)) = false := by simp [h1]
        rw [z] at hQ ⊢
        walk_at "rd"
        exact hQ
      · have z : (!decide (b ∈ rowOf R a)) = true := by simp [h1]
        rw [z, Bool.true_and] at hQ
        rw [z]
        walk_at "rd"
        refine rd_ixL hR1.at_ ata ?_
        walk_at "rd"
        refine rd_len hra ?_
        walk_at "rd"
        by_cases h2 : (rowOf R a).length < 4
        · rw [decide_eq_true h2, Bool.true_and] at hQ
          refine iteT' (by simp; omega) ?_
          walk_at "rd"
          refine rd_ixL hR1.at_ atb ?_
          walk_at "rd"
          refine rd_len hrb ?_
          walk_at "rd"
          have e3 : decide (((List.map V.int (rowOf R b)).length : Int) < 4) = decide ((rowOf R b).length < 4) := by
            rw [List.length_map]
            by_cases h3 : (rowOf R b).length < 4
            · rw [decide_eq_true h3, decide_eq_true (by omega)]
            · rw [decide_eq_false h3, decide_eq_false (by omega)]
          rw [e3]
          exact hQ
        · rw [decide_eq_false h2, Bool.false_and] at hQ
          refine iteF' (by simp; omega) ?_
          walk_at "rd"
          exact hQ
end
end K04

namespace K04
open PySem PySem.Spec PyProof.Rows L2 KX
local macro_rules | `(tactic| walk_at "rd1") => `(tactic| first
  | with_reducible refine rd_seq ?_
  | with_reducible refine rd_asg ?_
  | ((with_reducible refine' rd_var ?rdv ?_); (case rdv => exact rfl))
  | with_reducible refine rd_c ?_
  | with_reducible refine rd_op ?_
  | with_reducible refine rd_un ?_
  | with_reducible refine rd_cons ?_
  | with_reducible refine rd_nil ?_
  | with_reducible refine rd_call ?_
  | with_reducible refine rd_cb ?_
  | with_reducible refine rd_tB ?_
  | with_reducible refine rd_test ?_
  | with_reducible refine rd_bl ?_
  | with_reducible refine rd_rI0 ?_
  | with_reducible refine rd_eqI ?_
  | with_reducible refine rd_neI ?_
  | with_reducible refine rd_rU ?_
  | with_reducible refine rd_name ?_
  | with_reducible refine rd_ifs ?_
  | with_reducible refine rd_and ?_
  | with_reducible refine rd_or ?_
  | with_reducible refine rd_not ?_
  | with_reducible refine rd_yes ?_
  | with_reducible refine rd_andV ?_
  | with_reducible refine rd_orV ?_
  | with_reducible refine rd_notV ?_
  | with_reducible refine rd_if ?_
  | with_reducible refine rd_isN ?_
  | with_reducible refine rd_iT ?_
  | with_reducible refine rd_iF ?_
  | with_reducible refine rd_ret ?_
  | with_reducible refine rd_retN ?_
  | with_reducible refine rd_drop ?_
  | with_reducible refine rd_next ?_
  | with_reducible refine rd_cont ?_
  | with_reducible refine rd_brk ?_
  | with_reducible refine rd_nx ?_
  | with_reducible refine rd_rt ?_
  | with_reducible refine rd_ct ?_
  | with_reducible refine rd_bk ?_
  | with_reducible refine rd_par ?_
  | with_reducible refine rd_par3 ?_
  | with_reducible refine rd_par2 ?_
  | with_reducible refine rd_par33 ?_
  | with_reducible refine rd_gcons ?_
  | with_reducible refine rd_gnil ?_
  | with_reducible refine rd_sub ?_
  | with_reducible refine rd_tup ?_
  | with_reducible refine rd_lst ?_
  | ((with_reducible refine rd_tupT ?hl ?_); (case hl => exact Nat.le_of_ble_eq_true rfl))
  | ((with_reducible refine rd_lstT ?hl ?_); (case hl => exact Nat.le_of_ble_eq_true rfl))
  | with_reducible refine rd_bm ?_
  | with_reducible refine rd_bm0 ?_
  | with_reducible refine rd_sl ?_
  | with_reducible refine rd_noP ?_
  | with_reducible refine rd_part ?_
  | with_reducible refine rd_int ?_
  | with_reducible refine rd_int1 ?_
  | with_reducible refine rd_fld ?_
  | with_reducible refine rd_then ?_
  | with_reducible refine rd_raise ?_
  | with_reducible refine rd_one ?_
  | with_reducible refine rd_sfld ?_
  | with_reducible refine rd_ilist ?_
  | with_reducible refine rd_itup ?_
  | with_reducible refine rd_rng1 ?_
  | with_reducible refine rd_enum ?_
  | with_reducible refine rd_enumT ?_)
local macro_rules | `(tactic| walk_at "rd") => `(tactic| repeat (walk_at "rd1"))
/-- a list (true) or a tuple -/
def SqB (H : Hp) (x : V) (xs : List V) : Bool → Prop
  | true => ∃ a, x = .ref a ∧ H a = some (.lst xs)
  | false => ∃ a, x = .ref a ∧ Tup H a xs
theorem SqX.b {K : PySem.W.Frag} {H : Hp} {x : V} {xs : List V} (h : SqX K H x (some xs)) : ∃ b, SqB H x xs b := by
  cases h with
  | lst h => exact ⟨true, _, rfl, h⟩
  | tup h => exact ⟨false, _, rfl, h⟩
theorem SqB.x {K : PySem.W.Frag} {H : Hp} {x : V} {xs : List V} {b : Bool} (h : SqB H x xs b) : SqX K H x (some xs) := by
  cases b with
  | true => obtain ⟨a, rfl, h⟩ := h; exact .lst h
  | false => obtain ⟨a, rfl, h⟩ := h; exact .tup h
theorem SqB.same {H H' : Hp} {x : V} {xs : List V} {b : Bool} (h : SqB H x xs b) (s : Same H H') : SqB H' x xs b := by
  cases b with
  | true => obtain ⟨a, rfl, h⟩ := h; exact ⟨a, rfl, s _ _ h⟩
  | false => obtain ⟨a, rfl, h⟩ := h; exact ⟨a, rfl, h.same s⟩
theorem for_enumX {K : PySem.W.Frag} {ta : TA} {g : TG} {tb : TS} {D : Ends} {σ : L2.St} {H : Hp} {x : V} {xs : List V} {b : Bool} (hx : SqB H x xs b) (hta : ∀ R : List V → Hp → Prop, R [x] H → ta σ H R)
    (Pv : Nat → L2.St → Hp → Prop) (h0 : Pv 0 σ H) (hS : ∀ i σ H', Pv i σ H' → SqB H' x xs b)
    (hs : ∀ i y σ H' T H2, xs[i]? = some y → Pv i σ H' → H' T = none → Same H' H2 → H2 T = some (.tup [.int (i : Nat), y]) → g (.ref T) σ H2 fun σ3 H3 => tb { D with nx := Pv (i + 1), ct := Pv (i + 1), bk := D.nx } σ3 H3)
    (hd : ∀ σ H', Pv xs.length σ H' → D.nx σ H') : tFor (fun σ H R => iEnum K ta σ H R ∨ iEnumT K ta σ H R) g tb D σ H := by
  have st : ∀ i v σ H1 H2, i < xs.length → Pv i σ H1 → YPair (fun i => some (.int (i : Nat))) (fun i => xs[i]?) i H1 v H2 → g v σ H2 fun σ3 H3 => tb { D with nx := Pv (i + 1), ct := Pv (i + 1), bk := D.nx } σ3 H3 := by
    rintro i v σ H1 H2 _ hp ⟨T, a, b, rfl, hT, rfl, ha, hb⟩
    have ha : some (V.int (i : Nat)) = some a := ha
    cases ha
    exact hs i b σ H1 T _ hb hp hT (Same.fresh hT) upd_same
  cases b with
  | true =>
    obtain ⟨a, rfl, h⟩ := hx
    refine .inl (hta _ ⟨_, _, rfl, SqL.of h, for_it (walk_enum (K := K) (xs := xs)) Pv h0 (fun i σ H' _ p => ?_) st hd⟩)
    obtain ⟨a', e, h'⟩ := hS i σ H' p
    cases e
    exact SqL.of h'
  | false =>
    obtain ⟨a, rfl, h⟩ := hx
    refine .inr (hta _ ⟨_, _, rfl, h.sq, for_it (walk_enumT (K := K) (xs := xs)) Pv h0 (fun i σ H' _ p => ?_) st hd⟩)
    obtain ⟨a', e, h'⟩ := hS i σ H' p
    cases e
    exact h'.sq
theorem kTup_b {K : PySem.W.Frag} {H : Hp} {x : V} {xs : List V} {b : Bool} {Q : VK} (h : SqB H x xs b) (q : ∀ H' p, Same H H' → Tup H' p xs → Q (.ref p) H') : kTup K x H Q := by
  cases b with
  | true => obtain ⟨a, rfl, h⟩ := h; exact .inl ⟨_, _, rfl, SqL.of h, fun p hp => q _ p (Same.fresh hp) (Tup.of upd_same)⟩
  | false => obtain ⟨a, rfl, h⟩ := h; exact .inr ⟨_, _, rfl, h.sq, q H _ (Same.refl H) h⟩
/-- what is raised: the class, the index -/
def ErrAt (C : Addr) (E : XK) (H : Hp) (i : Int) : Prop := ∀ H' d, Same H H' → H' d = none → E (.ref C) (some d) (upd H' d (.xd [(("at" : Str), .int i)]))
/-- modes: what may be told of them -/
def spModes (K : PySem.W.Frag) (C : Addr) : Sp := fun vs H Q E => ∃ (x : V) (o : Option (List V)), vs = [x] ∧ SqX K H x o ∧
  (o = none → ErrAt C E H 0) ∧ (o = some [] → ErrAt C E H 0) ∧
  ∀ xs, o = some xs → xs ≠ [] → ∃ os, Paired (Kin K H) xs os ∧
    (∀ (i : Nat) o, os[i]? = some o → (∀ j o', j < i → os[j]? = some o' → bel4 o' = true) → bel4 o = false → ErrAt C E H i) ∧
    ((∀ o ∈ os, bel4 o = true) → ∀ H' p, Same H H' → Tup H' p xs → Q (.ref p) H')
theorem paired_get {α β : Type} {F : α → β → Prop} {l : List α} {m : List β} (h : Paired F l m) : ∀ {i : Nat} {x : α}, l[i]? = some x → ∃ y, m[i]? = some y ∧ F x y := by
  induction h with
  | nil => intro i x e; simp at e
  | @cons a b l m hab t ih =>
    intro i x e
    cases i with
    | zero => simp at e; subst e; exact ⟨b, by simp, hab⟩
    | succ j => simp at e; obtain ⟨y, h1, h2⟩ := ih e; exact ⟨y, by simpa using h1, h2⟩
theorem paired_len {α β : Type} {F : α → β → Prop} {l : List α} {m : List β} (h : Paired F l m) : l.length = m.length := by
  induction h with
  | nil => rfl
  | cons _ _ ih => simp [ih]
section
variable {P : Program} {w : World} {K : PySem.W.Frag} {mg : Str → Option Value} {base : Heap} (T : TX K mg)
theorem G_checked_modes : FnOk P w K mg base (L2.CX P w) 5 T.f_checked_modes T.d_checked_modes ["modes"] (spModes K T.c_InvalidNetwork) := by
  refine T.F_checked_modes.okX sc_checked_modes (fun vs H Q E h => ?_) fun cdv A outer s H vs Q E hr h => ⟨_, (pss_cons (ps_if (PW.pt (pw_or (pt_not (pt_val (pe_call (G_is_sequence T) (hr.mono (by decide)) (by rfl) T.m_is_sequence T.F_is_sequence.kp T.b_is_sequence .nil pass0 (by exact (pa_cons (pv 0) pa_nil))))) (pw_or1 (pt_cmpR op_eq (pe_callB (cr_lenK (K := K)) (by rfl) T.n_len (by decide +kernel) (by exact (pa_cons (pv 0) pa_nil))) pe_int (nomark _))))) (pss_one (ps_raiseErrZ rfl T.E_InvalidNetwork hr (takes_of rfl rfl rfl rfl) (by exact (pa_cons pe_int pa_nil)))) pss_nil) (pss_cons (ps_for (passes_of rfl) rfl (PI.or (pi_enumK (K := K) (by rfl) T.n_enumerate (by exact (pa_cons (pv 0) pa_nil))) (pi_enumTK (K := K) (by rfl) T.n_enumerate (by exact (pa_cons (pv 0) pa_nil)))) (pg_tupK (K := K) (n := 2) (by rfl) (pgs_cons (pg_name (i := 1) sc_checked_modes.nd rfl (.inl rfl)) (pgs_cons (pg_name (i := 2) sc_checked_modes.nd rfl (.inl rfl)) pgs_nil))) (pss_one (ps_if (pt_not (pt_val (pe_call (G_is_mode T) (hr.mono (by decide)) (by rfl) T.m_is_mode T.F_is_mode.kp T.b_is_mode .nil pass0 (by exact (pa_cons (pv 2) pa_nil))))) (pss_one (ps_raiseErrZ rfl T.E_InvalidNetwork hr (takes_of rfl rfl rfl rfl) (by exact (pa_cons (pv 1) pa_nil)))) pss_nil))) (pss_one (ps_ret (pe_tupleK (K := K) (by rfl) T.n_tuple (pv 0)))))), ?_⟩
  · obtain ⟨x, o, rfl, _⟩ := h
    rfl
  · obtain ⟨x, o, rfl, hx, hE0, hE1, hM⟩ := h
    walk_at "rd"
    refine ⟨_, _, rfl, hx, fun H1 S1 => ?_⟩
    have hx1 := sqx_same hx S1
    walk_at "rd"
    cases o with
    | none =>
      refine rd_iT ?_
      walk_at "rd"
      exact fun d hd => hE0 rfl H1 d S1 hd
    | some xs =>
      refine rd_iF ?_
      walk_at "rd"
      obtain ⟨b, hb⟩ := hx1.b
      obtain ⟨a, rfl, hs⟩ := hx1.any
      refine rd_lenB hs ?_
      walk_at "rd"
      by_cases h0 : xs = []
      · subst h0
        refine iteT' rfl ?_
        walk_at "rd"
        exact fun d hd => hE1 rfl H1 d S1 hd
      · obtain ⟨os, hk, hbad, hgood⟩ := hM xs rfl h0
        refine iteF' (by
          have : xs.length ≠ 0 := fun z => h0 (List.length_eq_zero_iff.mp z)
          simp; omega) ?_
        walk_at "rd"
        refine for_enumX (b := b) hb (fun R r => rd_cons (rd_var rfl (rd_nil r))) (fun i σ H2 => Same H H2 ∧ SqB H2 (.ref a) xs b ∧ (∃ o1 o2, σ = [some (.ref a), o1, o2]) ∧ ∀ j o', j < i → os[j]? = some o' → bel4 o' = true)
          ⟨S1, hb, ⟨_, _, rfl⟩, fun j o' h => absurd h (Nat.not_lt_zero j)⟩ (fun i σ H2 p => p.2.1) (fun i y σ H2 t H3 hy p ht S3 et => ?_) (fun σ H2 p => ?_)
        · obtain ⟨S2, hb2, ⟨o1, o2, rfl⟩, hg⟩ := p
          refine rd_gtup (Tup.of et) rfl ?_
          walk_at "rd"
          obtain ⟨oy, ho, ky⟩ := paired_get hk hy
          refine ⟨_, _, rfl, kin_same ky (S2.trans S3), ?_⟩
          walk_at "rd"
          cases hbo : bel4 oy with
          | false =>
            refine rd_iT ?_
            walk_at "rd"
            exact fun d hd => hbad i oy ho hg hbo H3 d (S2.trans S3) hd
          | true =>
            refine rd_iF ?_
            walk_at "rd"
            refine ⟨S2.trans S3, hb2.same S3, ⟨_, _, rfl⟩, fun j o' hj e => ?_⟩
            rcases Nat.lt_succ_iff_lt_or_eq.mp hj with h | h
            · exact hg j o' h e
            · subst h
              rw [ho] at e
              cases e
              exact hbo
        · obtain ⟨S2, hb2, ⟨o1, o2, rfl⟩, hg⟩ := p
          walk_at "rd"
          refine kTup_b hb2 fun H3 p S3 hp => ?_
          refine hgood (fun o ho => ?_) H3 p (S2.trans S3) hp
          obtain ⟨j, hj⟩ := List.getElem?_of_mem ho
          exact hg j o (by rw [paired_len hk]; exact (List.getElem?_eq_some_iff.mp hj).1) hj
end
end K04

namespace K04
open PySem PySem.Spec PyProof.Rows L2 KX
local macro_rules | `(tactic| walk_at "rd1") => `(tactic| first
  | with_reducible refine rd_seq ?_
  | with_reducible refine rd_asg ?_
  | ((with_reducible refine' rd_var ?rdv ?_); (case rdv => exact rfl))
  | with_reducible refine rd_c ?_
  | with_reducible refine rd_op ?_
  | with_reducible refine rd_un ?_
  | with_reducible refine rd_cons ?_
  | with_reducible refine rd_nil ?_
  | with_reducible refine rd_call ?_
  | with_reducible refine rd_cb ?_
  | with_reducible refine rd_tB ?_
  | with_reducible refine rd_test ?_
  | with_reducible refine rd_bl ?_
  | with_reducible refine rd_rI0 ?_
  | with_reducible refine rd_eqI ?_
  | with_reducible refine rd_neI ?_
  | with_reducible refine rd_rU ?_
  | with_reducible refine rd_name ?_
  | with_reducible refine rd_ifs ?_
  | with_reducible refine rd_and ?_
  | with_reducible refine rd_or ?_
  | with_reducible refine rd_not ?_
  | with_reducible refine rd_yes ?_
  | with_reducible refine rd_andV ?_
  | with_reducible refine rd_orV ?_
  | with_reducible refine rd_notV ?_
  | with_reducible refine rd_if ?_
  | with_reducible refine rd_isN ?_
  | with_reducible refine rd_iT ?_
  | with_reducible refine rd_iF ?_
  | with_reducible refine rd_ret ?_
  | with_reducible refine rd_retN ?_
  | with_reducible refine rd_drop ?_
  | with_reducible refine rd_next ?_
  | with_reducible refine rd_cont ?_
  | with_reducible refine rd_brk ?_
  | with_reducible refine rd_nx ?_
  | with_reducible refine rd_rt ?_
  | with_reducible refine rd_ct ?_
  | with_reducible refine rd_bk ?_
  | with_reducible refine rd_par ?_
  | with_reducible refine rd_par3 ?_
  | with_reducible refine rd_par2 ?_
  | with_reducible refine rd_par33 ?_
  | with_reducible refine rd_gcons ?_
  | with_reducible refine rd_gnil ?_
  | with_reducible refine rd_sub ?_
  | with_reducible refine rd_tup ?_
  | with_reducible refine rd_lst ?_
  | ((with_reducible refine rd_tupT ?hl ?_); (case hl => exact Nat.le_of_ble_eq_true rfl))
  | ((with_reducible refine rd_lstT ?hl ?_); (case hl => exact Nat.le_of_ble_eq_true rfl))
  | with_reducible refine rd_bm ?_
  | with_reducible refine rd_bm0 ?_
  | with_reducible refine rd_sl ?_
  | with_reducible refine rd_noP ?_
  | with_reducible refine rd_part ?_
  | with_reducible refine rd_int ?_
  | with_reducible refine rd_int1 ?_
  | with_reducible refine rd_fld ?_
  | with_reducible refine rd_then ?_
  | with_reducible refine rd_raise ?_
  | with_reducible refine rd_one ?_
  | with_reducible refine rd_sfld ?_
  | with_reducible refine rd_ilist ?_
  | with_reducible refine rd_itup ?_
  | with_reducible refine rd_rng1 ?_
  | with_reducible refine rd_enum ?_
  | with_reducible refine rd_enumT ?_)
local macro_rules | `(tactic| walk_at "rd") => `(tactic| repeat (walk_at "rd1"))
theorem Same.put {H H' : Hp} {D : Addr} {o : HO} (s : Same H H') (n : H D = none) : Same H (L2.upd H' D o) := fun c u h => by
  rw [upd_ne (fun z => by rw [z, n] at h; cases h)]
  exact s c u h
/-- a row sorted, as a tuple -/
def SrtAt (H : Hp) (q : Addr) (row : List Int) : Prop := ∃ ns : List Int, ns.Perm row ∧ ns.Pairwise (· ≤ ·) ∧ Tup H q (ns.map V.int)
theorem SrtAt.same {H H' : Hp} {q : Addr} {row : List Int} (h : SrtAt H q row) (s : Same H H') : SrtAt H' q row := by
  obtain ⟨ns, a, b, c⟩ := h
  exact ⟨ns, a, b, c.same s⟩
theorem paired_mono {α β : Type} {F G : α → β → Prop} {l : List α} {m : List β} (h : Paired F l m) (f : ∀ a b, F a b → G a b) : Paired G l m := by
  induction h with
  | nil => exact .nil
  | cons a _ ih => exact .cons (f _ _ a) ih
def emptyR (n : Nat) : List (List Int) := List.replicate n []
/-- all rows hold four at most -/
def Le4 (R : List (List Int)) : Prop := ∀ row ∈ R, row.length ≤ 4
def spLinks (K : PySem.W.Frag) (C : Addr) : Sp := fun vs H Q E => ∃ (n : Nat) (z : V) (o : Option (List V)), vs = [.int (n : Nat), z] ∧ n < 1000 ∧ SqX K H z o ∧
  (o = none → ErrAt C E H n) ∧
  ∀ xs, o = some xs → ∃ es, Paired (LkIs K H n) xs es ∧
    (∀ (i : Nat) e R, es[i]? = some e → runP (emptyR n) (es.take i) = some R → okL R e = false → ErrAt C E H (n + i)) ∧
    (∀ R, runP (emptyR n) es = some R → R.length = n → Le4 R → ∀ H' p ps, Same H H' → H' p = some (.tup (ps.map V.ref)) → Paired (SrtAt H') ps R → Q (.ref p) H')
theorem runP_snoc : ∀ (es : List (Option (Int × Int))) (R : List (List Int)) (e : Option (Int × Int)), runP R (es ++ [e]) = (runP R es).bind fun R' => stepL R' e
  | [], R, e => by
    show (stepL R e).bind (fun R' => some R') = stepL R e
    cases stepL R e <;> rfl
  | f :: es, R, e => by
    show (stepL R f).bind (fun R' => runP R' (es ++ [e])) = ((stepL R f).bind fun R' => runP R' es).bind fun R' => stepL R' e
    cases h : stepL R f with
    | none => rfl
    | some R' => exact runP_snoc es R' e
theorem appR_len (R : List (List Int)) (a b : Int) : (appR R a b).length = R.length := by unfold appR; simp
theorem addR_len (R : List (List Int)) (e : Option (Int × Int)) : (addR R e).length = R.length := by
  cases e with
  | none => rfl
  | some p => obtain ⟨a, b⟩ := p; show (appR (appR R a b) b a).length = _; rw [appR_len, appR_len]
theorem stepL_some {R R' : List (List Int)} {e : Option (Int × Int)} (h : stepL R e = some R') : okL R e = true ∧ R' = addR R e := by
  unfold stepL at h
  by_cases z : okL R e = true
  · rw [if_pos z] at h
    exact ⟨z, (Option.some.inj h).symm⟩
  · rw [if_neg z] at h; cases h
theorem rowOf_mem {R : List (List Int)} {a : Int} : rowOf R a = [] ∨ rowOf R a ∈ R := by
  unfold rowOf
  by_cases h : a.toNat < R.length
  · right
    rw [List.getD_eq_getElem?_getD, List.getElem?_eq_getElem h]
    exact List.getElem_mem h
  · left
    rw [List.getD_eq_getElem?_getD, List.getElem?_eq_none (by omega)]
    rfl
theorem rowOf_app {R : List (List Int)} {a b c : Int} (ne : a.toNat ≠ c.toNat) : rowOf (appR R a b) c = rowOf R c := by
  unfold rowOf appR
  rw [List.getD_eq_getElem?_getD, List.getD_eq_getElem?_getD, List.getElem?_set_ne ne]
theorem rowOf_app_self {R : List (List Int)} {a b : Int} (h : a.toNat < R.length) : rowOf (appR R a b) a = rowOf R a ++ [b] := by
  show (List.set R a.toNat (rowOf R a ++ [b])).getD a.toNat [] = rowOf R a ++ [b]
  rw [List.getD_eq_getElem?_getD, List.getElem?_set_self h]; rfl
theorem Le4.app {R : List (List Int)} {a b : Int} (h : Le4 R) (l : (rowOf R a).length < 4) : Le4 (appR R a b) := fun row hr => by
  rcases List.mem_or_eq_of_mem_set hr with z | z
  · exact h row z
  · rw [z, List.length_append]; exact l
theorem Le4.step {R R' : List (List Int)} {e : Option (Int × Int)} (hR : Le4 R) (hne : ∀ a b, e = some (a, b) → a.toNat ≠ b.toNat) (h : stepL R e = some R') : Le4 R' := by
  obtain ⟨ok, rfl⟩ := stepL_some h
  match e, ok, hne with
  | none, ok, _ => exact hR
  | some (a, b), ok, hne =>
    have ok : (!decide (b ∈ rowOf R a) && (decide ((rowOf R a).length < 4) && decide ((rowOf R b).length < 4))) = true := ok
    simp only [Bool.and_eq_true, decide_eq_true_eq] at ok
    refine (hR.app (b := b) ok.2.1).app (b := a) ?_
    rw [rowOf_app (hne a b rfl)]
    exact ok.2.2
theorem Rows.app {H : Hp} {N : Addr} {rs : List Addr} {R : List (List Int)} (h : Rows H N rs R) {a b : Int} {r : Addr} (hr : rs[a.toNat]? = some r) :
    Rows (upd H r (.lst ((rowOf R a).map V.int ++ [.int b]))) N rs (appR R a b) := by
  have mem : r ∈ rs := List.mem_of_getElem? hr
  refine ⟨by rw [upd_ne (fun z => h.out (by rw [z]; exact mem))]; exact h.at_, ?_, h.nd, h.out⟩
  have e0 : (rowOf R a).map V.int ++ [V.int b] = (rowOf R a ++ [b]).map V.int := by simp
  rw [e0]
  have gen : ∀ {l : List Addr} {m : List (List Int)} (k : Nat) (row : List Int), Paired (fun r (row : List Int) => H r = some (.lst (row.map V.int))) l m → l.Nodup → l[k]? = some r →
      Paired (fun q (row' : List Int) => upd H r (.lst (row.map V.int)) q = some (.lst (row'.map V.int))) l (m.set k row) := by
    intro l m k row p
    induction p generalizing k with
    | nil => intro _ z; simp at z
    | @cons x y l m hxy q ih =>
      intro nd z
      have nd' := (List.nodup_cons.mp nd)
      cases k with
      | zero =>
        simp at z
        subst z
        refine .cons (by show upd H x _ x = _; rw [upd_same]) ?_
        have gen2 : ∀ {l : List Addr} {m : List (List Int)}, Paired (fun r (row : List Int) => H r = some (.lst (row.map V.int))) l m → x ∉ l → Paired (fun q (row' : List Int) => upd H x (.lst (row.map V.int)) q = some (.lst (row'.map V.int))) l m := by
          intro l m p
          induction p with
          | nil => intro _; exact .nil
          | @cons u v l m huv _ ih2 =>
            intro hx
            refine .cons ?_ (ih2 fun z => hx (List.mem_cons_of_mem _ z))
            show upd H x _ u = _
            rw [upd_ne (fun z => hx (by rw [z]; exact List.mem_cons_self))]
            exact huv
        exact gen2 q nd'.1
      | succ j =>
        simp at z
        refine .cons ?_ (ih j nd'.2 z)
        show upd H r _ x = _
        rw [upd_ne (fun e => nd'.1 (by rw [e]; exact List.mem_of_getElem? z))]
        exact hxy
  exact gen a.toNat (rowOf R a ++ [b]) h.rows h.nd hr
section
variable {P : Program} {w : World} {K : PySem.W.Frag} {mg : Str → Option Value} {base : Heap} (T : TX K mg)
theorem G_linked_sites : FnOk P w K mg base (L2.CX P w) 5 T.f_linked_sites T.d_linked_sites ["many", "links"] (spLinks K T.c_InvalidNetwork) := by
  refine T.F_linked_sites.okX sc_linked_sites (fun vs H Q E h => ?_) fun cdv A outer s H vs Q E hr h => ⟨_, (pss_cons (ps_if (pt_not (pt_val (pe_call (G_is_sequence T) (hr.mono (by decide)) (by rfl) T.m_is_sequence T.F_is_sequence.kp T.b_is_sequence .nil pass0 (by exact (pa_cons (pv 1) pa_nil))))) (pss_one (ps_raiseErrZ rfl T.E_InvalidNetwork hr (takes_of rfl rfl rfl rfl) (by exact (pa_cons (pv 0) pa_nil)))) pss_nil) (pss_cons (ps_setLc (i := 2) (own := [("_", 7)]) (by rfl) sc_linked_sites.nd rfl rfl (sw_true rfl rfl rfl (by decide +kernel)) (pi_range1 (by rfl) T.n_range (by exact (pa_cons (pv 0) pa_nil))) (blkOk_by (own := [("_", 7)]) (N := N_linked_sites) (sc := defScope s_linked_sites) (by decide +kernel)) (fun _ _ _ _ _ => (pg_name (i := 7) sc_linked_sites.nd rfl (.inl rfl))) (fun _ _ _ _ _ => pts_nil) (fun _ _ _ _ _ => (pe_lst pa_nil)) ) (pss_cons (ps_for (passes_of rfl) rfl (PI.or (pi_enumK (K := K) (by rfl) T.n_enumerate (by exact (pa_cons (pv 1) pa_nil))) (pi_enumTK (K := K) (by rfl) T.n_enumerate (by exact (pa_cons (pv 1) pa_nil)))) (pg_tupK (K := K) (n := 2) (by rfl) (pgs_cons (pg_name (i := 3) sc_linked_sites.nd rfl (.inl rfl)) (pgs_cons (pg_name (i := 4) sc_linked_sites.nd rfl (.inl rfl)) pgs_nil))) (pss_cons (ps_if (pt_not (pt_val (pe_call (G_can_link T) (hr.mono (by decide)) (by rfl) T.m_can_link T.F_can_link.kp T.b_can_link .nil pass0 (by exact (pa_cons (pv 2) (pa_cons (pv 4) pa_nil)))))) (pss_one (ps_raiseErrZ rfl T.E_InvalidNetwork hr (takes_of rfl rfl rfl rfl) (by exact (pa_cons (pe_op op_add (pv 0) (pv 3)) pa_nil)))) pss_nil) (pss_cons (ps_asg (pv 4) (KX.PG.or (pg_tupK (K := K) (n := 2) (by rfl) (pgs_cons (pg_name (i := 5) sc_linked_sites.nd rfl (.inl rfl)) (pgs_cons (pg_name (i := 6) sc_linked_sites.nd rfl (.inl rfl)) pgs_nil))) (pg_lstK (K := K) (n := 2) (by rfl) (pgs_cons (pg_name (i := 5) sc_linked_sites.nd rfl (.inl rfl)) (pgs_cons (pg_name (i := 6) sc_linked_sites.nd rfl (.inl rfl)) pgs_nil))))) (pss_cons (ps_expr (pe_bmK (K := K) PySem.F.slot_list_append PySem.F.type_list_append mt_append (pe_ix (ix_listK (K := K)) (pv 2) (pv 5) (fun _ _ => rfl)) (by exact (pa_cons (pv 6) pa_nil)))) (pss_one (ps_expr (pe_bmK (K := K) PySem.F.slot_list_append PySem.F.type_list_append mt_append (pe_ix (ix_listK (K := K)) (pv 2) (pv 6) (fun _ _ => rfl)) (by exact (pa_cons (pv 5) pa_nil))))))))) (pss_one (ps_ret (pe_tupleK (K := K) (by rfl) T.n_tuple (by exact (pe_lc (own := [("row", 8)]) (by rfl) sc_linked_sites.nd (pi_listK (K := K) (pv 2)) (blkOk_by (own := [("row", 8)]) (N := N_linked_sites) (sc := defScope s_linked_sites) (by decide +kernel)) (fun _ _ _ _ _ => (pg_name (i := 8) sc_linked_sites.nd rfl (.inl rfl))) (fun _ _ _ _ _ => pts_nil) (fun _ _ _ _ _ => (pe_tupleK (K := K) (by rfl) T.n_tuple (pe_callB (cr_sortedK (K := K)) (by rfl) T.n_sorted (by decide +kernel) (by exact (pa_cons (pv 8) pa_nil))))) )))))))), ?_⟩
  · obtain ⟨n, z, o, rfl, _⟩ := h
    rfl
  · obtain ⟨n, z, o, rfl, hn, hz, hE0, hM⟩ := h
    walk_at "rd"
    refine ⟨_, _, rfl, hz, fun H1 S1 => ?_⟩
    have hz1 := sqx_same hz S1
    walk_at "rd"
    cases o with
    | none =>
      refine rd_iT ?_
      walk_at "rd"
      exact fun d hd => hE0 rfl H1 d S1 hd
    | some xs =>
      refine rd_iF ?_
      walk_at "rd"
      obtain ⟨es, hes, hbad, hgood⟩ := hM xs rfl
      obtain ⟨b, hb0⟩ := hz.b
      have hb := hb0.same S1
      unfold tLc
      walk_at "rd"
      refine ⟨by omega, by omega, fun N hN => ?_⟩
      refine lc_range (lo := 0) (n := n) (fun i H' => Same H1 H' ∧ ∃ rs : List Addr, rs.length = i ∧ H' N = some (.lst (rs.map V.ref)) ∧ (∀ r ∈ rs, H' r = some (.lst []) ∧ H1 r = none) ∧ rs.Nodup ∧ N ∉ rs)
        ⟨Same.fresh hN, [], rfl, upd_same, by simp, List.nodup_nil, by simp⟩ (fun i H2 hi p => ?_) (fun H2 p => ?_)
      · obtain ⟨S2, rs, hl, hNr, hrs, nd, out⟩ := p
        refine ⟨rfl, ?_⟩
        walk_at "rd"
        intro r H3 hr0 S3 hr3
        have hN3 := S3 _ _ hNr
        have nr : N ≠ r := fun z => by rw [z, hr0] at hNr; cases hNr
        have nrs : r ∉ rs := fun z => by
          have := (hrs r z).1
          rw [hr0] at this; cases this
        refine ⟨_, hN3, by rw [List.length_map, hl]; exact Nat.lt_of_lt_of_le (by omega : i < 1000) (by decide), Same.put (S2.trans S3) hN, rs ++ [r], by simp [hl], by rw [upd_same]; simp, fun q hq => ?_, ?_, ?_⟩
        · rcases List.mem_append.mp hq with h | h
          · have nq : q ≠ N := fun z => out (by rw [← z]; exact h)
            rw [upd_ne nq]
            exact ⟨S3 _ _ (hrs q h).1, (hrs q h).2⟩
          · rw [List.mem_singleton.mp h, upd_ne (Ne.symm nr)]
            exact ⟨hr3, S2.free hr0⟩
        · exact List.nodup_append.mpr ⟨nd, by simp, fun a ha b hb => by
            rw [List.mem_singleton.mp hb]
            exact fun z => nrs (by rw [← z]; exact ha)⟩
        · intro z
          rcases List.mem_append.mp z with h | h
          · exact out h
          · exact nr (List.mem_singleton.mp h)
      · obtain ⟨S2, rs, hl, hNr, hrs, nd, out⟩ := p
        have R0 : Rows H2 N rs (emptyR n) := by
          refine ⟨hNr, ?_, nd, out⟩
          have gen : ∀ l : List Addr, (∀ r ∈ l, H2 r = some (.lst [])) → Paired (fun r (row : List Int) => H2 r = some (.lst (row.map V.int))) l (List.replicate l.length []) := by
            intro l
            induction l with
            | nil => intro _; exact .nil
            | cons x l ih => intro h; exact .cons (h x List.mem_cons_self) (ih fun r hr => h r (List.mem_cons_of_mem _ hr))
          unfold emptyR
          rw [← hl]
          exact gen rs fun r hr => (hrs r hr).1
        have fr : ∀ r ∈ rs, H r = none := fun r hr => S1.free (hrs r hr).2
        have lenX := paired_len hes
        walk_at "rd"
        refine for_enumX (b := b) (hb.same S2) (fun R r => rd_cons (rd_var rfl (rd_nil r))) (fun i σ H' => Same H H' ∧ SqB H' z xs b ∧ (∃ o1 o2 o3 o4, σ = [some (.int n), some z, some (.ref N), o1, o2, o3, o4, none, none]) ∧
            ∃ R, runP (emptyR n) (es.take i) = some R ∧ Rows H' N rs R ∧ Le4 R)
          ⟨S1.trans S2, hb.same S2, ⟨_, _, _, _, rfl⟩, emptyR n, rfl, R0, fun row hr => by rw [List.eq_of_mem_replicate hr]; decide⟩ (fun i σ H2 p => p.2.1) (fun i y σ H2 t H3 hy p ht S3 et => ?_) (fun σ H2 p => ?_)
        · obtain ⟨S2', hb2, ⟨o1, o2, o3, o4, rfl⟩, R, hR, hRows, h4⟩ := p
          obtain ⟨ey, he, ke⟩ := paired_get hes hy
          refine rd_gtup (Tup.of et) rfl ?_
          walk_at "rd"
          refine ⟨N, rs, R, y, ey, rfl, hRows.same S3, by rw [hl]; exact ke.same (S2'.trans S3), fun H4 S4 => ?_⟩
          have S5 : Same H H4 := (S2'.trans S3).trans S4
          have hRows4 := hRows.same (S3.trans S4)
          have ke4 := ke.same S5
          walk_at "rd"
          cases hok : okL R ey with
          | false =>
            refine rd_iT ?_
            walk_at "rd"
            exact fun d hd => hbad i ey R he hR hok H4 d S5 hd
          | true =>
            refine rd_iF ?_
            walk_at "rd"
            match ey, hok, ke4, he with
            | none, hok, _, _ => cases hok
            | some (a, c), hok, ke4, he =>
              cases ke4 with
              | ok hs a0 a1 b0 b1 ne =>
                obtain ⟨py, rfl, _⟩ := hs.any
                refine hs.unp rfl ?_
                walk_at "rd"
                obtain ⟨ra, era, hra, ata⟩ := hRows4.get a0 (by omega)
                have la : (rowOf R a).length ≤ 4 := by
                  rcases rowOf_mem (R := R) (a := a) with h | h
                  · rw [h]; decide
                  · exact h4 _ h
                have lc : (rowOf R c).length ≤ 4 := by
                  rcases rowOf_mem (R := R) (a := c) with h | h
                  · rw [h]; decide
                  · exact h4 _ h
                have nac : a.toNat ≠ c.toNat := by omega
                refine rd_ixL hRows4.at_ ata ?_
                refine rd_ty hra ?_
                walk_at "rd"
                refine rd_app hra (by rw [List.length_map]; omega) ?_
                walk_at "rd"
                have hR5 := hRows4.app (b := c) era
                have S6 : Same H (upd H4 ra (.lst ((rowOf R a).map V.int ++ [.int c]))) := Same.put S5 (fr ra (List.mem_of_getElem? era))
                generalize upd H4 ra (.lst ((rowOf R a).map V.int ++ [.int c])) = H5 at hR5 S6
                obtain ⟨rc, erc, hrc, atc⟩ := hR5.get b0 (by omega)
                refine rd_ixL hR5.at_ atc ?_
                refine rd_ty hrc ?_
                walk_at "rd"
                refine rd_app hrc (by rw [List.length_map, rowOf_app nac]; omega) ?_
                walk_at "rd"
                have hR6 := hR5.app (b := a) erc
                have S7 : Same H (upd H5 rc (.lst ((rowOf (appR R a c) c).map V.int ++ [.int a]))) := Same.put S6 (fr rc (List.mem_of_getElem? erc))
                refine ⟨S7, hb0.same S7, ⟨_, _, _, _, rfl⟩, addR R (some (a, c)), ?_, hR6, ?_⟩
                · rw [List.take_succ, he]
                  show runP (emptyR n) (es.take i ++ [some (a, c)]) = _
                  rw [runP_snoc, hR]
                  show stepL R (some (a, c)) = _
                  unfold stepL
                  rw [if_pos hok]
                · refine h4.step (e := some (a, c)) (fun x y e => by cases e; exact nac) ?_
                  unfold stepL
                  rw [if_pos hok]
        · obtain ⟨S2', hb2, ⟨o1, o2, o3, o4, rfl⟩, R, hR, hRows, h4⟩ := p
          rw [lenX, List.take_length] at hR
          walk_at "rd"
          refine ⟨_, rfl, ⟨_, SqL.of hRows.at_⟩, fun D hD => ?_⟩
          have lenR : rs.length = R.length := Paired.length hRows.rows
          refine lc_list (xs := rs.map V.ref) (fun i H' => Same H2 H' ∧ ∃ qs : List Addr, H' D = some (.lst (qs.map V.ref)) ∧ Paired (SrtAt H') qs (R.take i))
            ⟨Same.fresh hD, [], upd_same, .nil⟩ (fun i H' _ p => SqL.of (p.1 _ _ hRows.at_)) (fun i x H3 hx p => ?_) (fun H3 p => ?_)
          · obtain ⟨S3, qs, hq, hP⟩ := p
            rw [List.getElem?_map] at hx
            obtain ⟨r, hr', rfl⟩ := Option.map_eq_some_iff.mp hx
            obtain ⟨row, hrow, hrr⟩ := paired_get hRows.rows hr'
            have hi : i < n := by
              have := (List.getElem?_eq_some_iff.mp hr').1
              omega
            refine ⟨rfl, ?_⟩
            walk_at "rd"
            refine rd_sorted (S3 _ _ hrr) (by have := h4 row (List.mem_of_getElem? hrow); omega) fun ns pm srt => ?_
            intro u H4 hu S4 hu4
            walk_at "rd"
            refine rd_tupL hu4 ?_
            intro q H5 hq0 S5 hq5
            have S45 : Same H3 H5 := S4.trans S5
            have hqD := S45 _ _ hq
            have nq : q ≠ D := fun z => by rw [z, S4 _ _ hq] at hq0; cases hq0
            refine ⟨_, hqD, ?_, Same.put (S3.trans S45) hD, qs ++ [q], by rw [upd_same]; simp, ?_⟩
            · rw [List.length_map, paired_len hP, List.length_take]
              exact Nat.lt_of_lt_of_le (by omega : min i R.length < 1000) (by decide)
            · rw [List.take_succ, hrow]
              refine Paired.snoc (paired_mono hP fun a c h => ?_) ⟨ns, pm, srt, Tup.of (by rw [upd_ne nq]; exact hq5)⟩
              obtain ⟨ns', x1, x2, x3⟩ := h
              refine ⟨ns', x1, x2, ?_⟩
              have x4 := x3.same S45
              rcases x4 with x4 | ⟨o, x4⟩
              · exact Or.inl (by rw [upd_ne (fun z => by rw [z, hqD] at x4; cases x4)]; exact x4)
              · exact Or.inr ⟨o, by rw [upd_ne (fun z => by rw [z, hqD] at x4; cases x4)]; exact x4⟩
          · obtain ⟨S3, qs, hq, hP⟩ := p
            rw [List.length_map, lenR, List.take_length] at hP
            refine rd_tupL hq ?_
            intro q H5 hq0 S5 hq5
            exact hgood R hR (by omega) h4 H5 q qs ((S2'.trans S3).trans S5) hq5 (paired_mono hP fun a c h => h.same S5)
end
end K04

namespace K04
open PySem PySem.Spec PyProof.Rows L2 KX
local macro_rules | `(tactic| walk_at "rd1") => `(tactic| first
  | with_reducible refine rd_seq ?_
  | with_reducible refine rd_asg ?_
  | ((with_reducible refine' rd_var ?rdv ?_); (case rdv => exact rfl))
  | with_reducible refine rd_c ?_
  | with_reducible refine rd_op ?_
  | with_reducible refine rd_un ?_
  | with_reducible refine rd_cons ?_
  | with_reducible refine rd_nil ?_
  | with_reducible refine rd_call ?_
  | with_reducible refine rd_cb ?_
  | with_reducible refine rd_tB ?_
  | with_reducible refine rd_test ?_
  | with_reducible refine rd_bl ?_
  | with_reducible refine rd_rI0 ?_
  | with_reducible refine rd_eqI ?_
  | with_reducible refine rd_neI ?_
  | with_reducible refine rd_rU ?_
  | with_reducible refine rd_name ?_
  | with_reducible refine rd_ifs ?_
  | with_reducible refine rd_and ?_
  | with_reducible refine rd_or ?_
  | with_reducible refine rd_not ?_
  | with_reducible refine rd_yes ?_
  | with_reducible refine rd_andV ?_
  | with_reducible refine rd_orV ?_
  | with_reducible refine rd_notV ?_
  | with_reducible refine rd_if ?_
  | with_reducible refine rd_isN ?_
  | with_reducible refine rd_iT ?_
  | with_reducible refine rd_iF ?_
  | with_reducible refine rd_ret ?_
  | with_reducible refine rd_retN ?_
  | with_reducible refine rd_drop ?_
  | with_reducible refine rd_next ?_
  | with_reducible refine rd_cont ?_
  | with_reducible refine rd_brk ?_
  | with_reducible refine rd_nx ?_
  | with_reducible refine rd_rt ?_
  | with_reducible refine rd_ct ?_
  | with_reducible refine rd_bk ?_
  | with_reducible refine rd_par ?_
  | with_reducible refine rd_par3 ?_
  | with_reducible refine rd_par2 ?_
  | with_reducible refine rd_par33 ?_
  | with_reducible refine rd_gcons ?_
  | with_reducible refine rd_gnil ?_
  | with_reducible refine rd_sub ?_
  | with_reducible refine rd_tup ?_
  | with_reducible refine rd_lst ?_
  | ((with_reducible refine rd_tupT ?hl ?_); (case hl => exact Nat.le_of_ble_eq_true rfl))
  | ((with_reducible refine rd_lstT ?hl ?_); (case hl => exact Nat.le_of_ble_eq_true rfl))
  | with_reducible refine rd_bm ?_
  | with_reducible refine rd_bm0 ?_
  | with_reducible refine rd_sl ?_
  | with_reducible refine rd_noP ?_
  | with_reducible refine rd_part ?_
  | with_reducible refine rd_int ?_
  | with_reducible refine rd_int1 ?_
  | with_reducible refine rd_fld ?_
  | with_reducible refine rd_then ?_
  | with_reducible refine rd_raise ?_
  | with_reducible refine rd_one ?_
  | with_reducible refine rd_sfld ?_
  | with_reducible refine rd_ilist ?_
  | with_reducible refine rd_itup ?_
  | with_reducible refine rd_rng1 ?_
  | with_reducible refine rd_enum ?_
  | with_reducible refine rd_enumT ?_)
local macro_rules | `(tactic| walk_at "rd") => `(tactic| repeat (walk_at "rd1"))
/-- a walk in a comprehension, from any start -/
theorem it_wk {J : It} {n : Nat} {G : Hp → Prop} {Y : Nat → Hp → V → Hp → Prop} (w : Walk J n G Y) {T : V → Hp → (Hp → Prop) → Prop} {Qd : Hp → Prop} {H0 : Hp}
    (Pv : Nat → Hp → Prop) (h0 : Pv 0 H0) (hG : ∀ i H, i ≤ n → Pv i H → G H)
    (hs : ∀ i x H H', i < n → Pv i H → Y i H x H' → T x H' (Pv (i + 1))) (hd : ∀ H, Pv n H → Qd H) :
    ∃ W : Nat → Nat → Hp → Prop, (∃ m, W 0 m H0) ∧ ∀ i m H, W i m H →
      (J.stop i H ∧ Qd H) ∨ (J.go i H ∧ ∃ Nx : Hp → Prop, (∀ H', Nx H' → ∃ m', m' < m ∧ W (i + 1) m' H') ∧ ∀ x H', J.yld i H x H' → T x H' Nx) := by
  refine ⟨fun i m H => m = n - i ∧ i ≤ n ∧ Pv i H, ⟨n, by simp, Nat.zero_le _, h0⟩, ?_⟩
  rintro i m H ⟨rfl, hi, p⟩
  have q := hG i H hi p
  by_cases hlt : i < n
  · exact Or.inr ⟨w.goes i H hlt q, Pv (i + 1), fun H' z => ⟨n - (i + 1), by omega, rfl, hlt, z⟩, fun x H' y => hs i x H H' hlt p (w.yields i H x H' hlt q y)⟩
  · have e : i = n := by omega
    subst e
    exact Or.inl ⟨w.stops H q, hd H p⟩
/-! ### what is no instance stays -/
def Sn (H H' : Hp) : Prop := ∀ a o, (∀ C dx fs, o ≠ .ins C dx fs) → H a = some o → H' a = some o
theorem Sn.same {H H' : Hp} (s : Same H H') : Sn H H' := fun a o _ h => s a o h
theorem Sn.trans {H H1 H2 : Hp} (a : Sn H H1) (b : Sn H1 H2) : Sn H H2 := fun c o n h => b c o n (a c o n h)
theorem tyx_sn {K : PySem.W.Frag} {H H' : Hp} {x : V} {n : String} (h : TyX K H x (.type n)) (s : Sn H H') : TyX K H' x (.type n) := by
  cases h with
  | base h =>
    refine .base ?_
    cases h with
    | lst e => exact .lst (s _ _ (fun _ _ _ z => nomatch z) e)
    | frz e => exact .frz (s _ _ (fun _ _ _ z => nomatch z) e)
    | tup e => exact .tup (s _ _ (fun _ _ _ z => nomatch z) e)
    | dK e => exact .dK (s _ _ (fun _ _ _ z => nomatch z) e)
    | dT e => exact .dT (s _ _ (fun _ _ _ z => nomatch z) e)
    | _ => constructor
  | byt b => exact .byt b
  | set e => exact .set (s _ _ (fun _ _ _ z => nomatch z) e)
  | kList e c => exact .kList e c
  | kTuple e c => exact .kTuple e c
  | kDict e c => exact .kDict e c
  | fTuple e => exact .fTuple (s _ _ (fun _ _ _ z => nomatch z) e)
  | fDict e => exact .fDict (s _ _ (fun _ _ _ z => nomatch z) e)
theorem tup_sn {H H' : Hp} {a : Addr} {xs : List V} (h : Tup H a xs) (s : Sn H H') : Tup H' a xs := by
  rcases h with h | ⟨o, h⟩
  · exact Or.inl (s _ _ (fun _ _ _ z => nomatch z) h)
  · exact Or.inr ⟨o, s _ _ (fun _ _ _ z => nomatch z) h⟩
theorem kin_sn {K : PySem.W.Frag} {H H' : Hp} {x : V} {o : Option Int} (h : Kin K H x o) (s : Sn H H') : Kin K H' x o := by
  cases h with
  | int i => exact .int i
  | oth t h1 h2 h3 => exact .oth (tyx_sn t s) h1 h2 h3
theorem sqx_sn {K : PySem.W.Frag} {H H' : Hp} {x : V} {o : Option (List V)} (h : SqX K H x o) (s : Sn H H') : SqX K H' x o := by
  cases h with
  | lst h => exact .lst (s _ _ (fun _ _ _ z => nomatch z) h)
  | tup h => exact .tup (tup_sn h s)
  | oth t h1 h2 => exact .oth (tyx_sn t s) h1 h2
theorem lk_sn {K : PySem.W.Frag} {H H' : Hp} {n : Nat} {x : V} {e : Option (Int × Int)} (h : LkIs K H n x e) (s : Sn H H') : LkIs K H' n x e := by
  cases h with
  | seq h => exact .seq (sqx_sn h s)
  | len h l => exact .len (sqx_sn h s) l
  | fst h k b => exact .fst (sqx_sn h s) (kin_sn k s) b
  | snd h k k' b => exact .snd (sqx_sn h s) (kin_sn k s) (kin_sn k' s) b
  | eq h a b => exact .eq (sqx_sn h s) a b
  | ok h a b c d e => exact .ok (sqx_sn h s) a b c d e
/-- all but s stays -/
def Ex (s : Addr) (H H' : Hp) : Prop := ∀ a o, a ≠ s → H a = some o → H' a = some o
theorem Ex.same {s : Addr} {H H' : Hp} (h : Same H H') : Ex s H H' := fun a o _ e => h a o e
theorem Ex.trans {s : Addr} {H H1 H2 : Hp} (a : Ex s H H1) (b : Ex s H1 H2) : Ex s H H2 := fun c o n h => b c o n (a c o n h)
theorem Ex.upd {s : Addr} {H : Hp} {o : HO} : Ex s H (upd H s o) := fun a u n h => by rw [upd_ne n]; exact h
theorem Ex.sn {s C dx : Addr} {fs : List (Str × V)} {H H' : Hp} (h : Ex s H H') (hs : H s = some (.ins C dx fs)) : Sn H H' := fun a o n e =>
  h a o (fun z => by rw [z, hs] at e; exact n _ _ _ (Option.some.inj e).symm) e
def ErrX (CI : Addr) (E : XK) (s : Addr) (H : Hp) (i : Int) : Prop := ∀ H' d, Ex s H H' → H' d = none → E (.ref CI) (some d) (upd H' d (.xd [(("at" : Str), .int i)]))
/-! ### the links of the rows -/
def rowE (k : Nat) (row : List Int) : List (Int × Int) := (row.filter fun j => decide ((k : Int) < j)).map fun j => ((k : Int), j)
def edgesFrom (k : Nat) : List (List Int) → List (Int × Int)
  | [] => []
  | row :: rest => rowE k row ++ edgesFrom (k + 1) rest
theorem edges_snoc : ∀ (l : List (List Int)) (k : Nat) (r : List Int), edgesFrom k (l ++ [r]) = edgesFrom k l ++ rowE (k + l.length) r
  | [], k, r => by simp [edgesFrom]
  | x :: l, k, r => by
    show rowE k x ++ edgesFrom (k + 1) (l ++ [r]) = (rowE k x ++ edgesFrom (k + 1) l) ++ rowE (k + (l.length + 1)) r
    rw [edges_snoc l (k + 1) r, List.append_assoc]
    have e : k + 1 + l.length = k + (l.length + 1) := by omega
    rw [e]
theorem edges_take (Ns : List (List Int)) {i : Nat} {r : List Int} (h : Ns[i]? = some r) : edgesFrom 0 (Ns.take (i + 1)) = edgesFrom 0 (Ns.take i) ++ rowE i r := by
  have hi := (List.getElem?_eq_some_iff.mp h).1
  rw [List.take_succ, h]
  show edgesFrom 0 (Ns.take i ++ [r]) = _
  rw [edges_snoc]
  have e : 0 + (Ns.take i).length = i := by rw [List.length_take]; omega
  rw [e]
theorem rowE_take (k : Nat) {ns : List Int} {j : Nat} {y : Int} (h : ns[j]? = some y) : rowE k (ns.take (j + 1)) = rowE k (ns.take j) ++ (if decide ((k : Int) < y) = true then [((k : Int), y)] else []) := by
  rw [List.take_succ, h]
  unfold rowE
  rw [List.filter_append, List.map_append]
  congr 1
  by_cases z : (k : Int) < y <;> simp [z]
theorem rowE_len (k : Nat) (ns : List Int) : (rowE k ns).length ≤ ns.length := by
  unfold rowE
  rw [List.length_map]
  exact List.length_filter_le _ _
theorem edges_len : ∀ (k : Nat) (R : List (List Int)), (∀ row ∈ R, row.length ≤ 4) → (edgesFrom k R).length ≤ 4 * R.length
  | k, [], _ => Nat.le_refl _
  | k, r :: R, h => by
    have h1 := edges_len (k + 1) R fun row hr => h row (List.mem_cons_of_mem _ hr)
    have h2 := rowE_len k r
    have h3 := h r List.mem_cons_self
    show (rowE k r ++ edgesFrom (k + 1) R).length ≤ 4 * (R.length + 1)
    rw [List.length_append]
    omega
def RowT (H : Hp) (q : Addr) (ns : List Int) : Prop := Tup H q (ns.map V.int)
def PairAt (H : Hp) (q : Addr) (e : Int × Int) : Prop := H q = some (.tup [.int e.1, .int e.2])
theorem dp_pair {K : PySem.W.Frag} {H : Hp} {q : Addr} {e : Int × Int} (h : PairAt H q e) : Dp K H (.ref q) (dP e) := .tup (SqT.of h) (.cons (.int _) (.cons (.int _) .nil))
theorem dp_pairs {K : PySem.W.Frag} {H : Hp} {ps : List Addr} {L : List (Int × Int)} (h : Paired (PairAt H) ps L) : DpAll K H (ps.map V.ref) (L.map dP) := by
  induction h with
  | nil => exact .nil
  | cons a _ ih => exact .cons (dp_pair a) ih
/-- a network stands at p: the modes ms, the sorted rows R, the links L -/
structure NetAt (C : Addr) (H : Hp) (p : Addr) (ms : List Int) (R : List (List Int)) (L : List (Int × Int)) : Prop where
  ob : ∃ dx pm pn pl qs ps, H p = some (.ins C dx (putF "links" (.ref pl) (putF "_near" (.ref pn) (putF "modes" (.ref pm) [])))) ∧
    Tup H pm (ms.map V.int) ∧ H pn = some (.tup (qs.map V.ref)) ∧ Paired (RowT H) qs R ∧ H pl = some (.tup (ps.map V.ref)) ∧ Paired (PairAt H) ps L
theorem k_nm : ¬ (("_near" : Str) = "modes") := by decide +kernel
theorem k_lm : ¬ (("links" : Str) = "modes") := by decide +kernel
theorem k_ln : ¬ (("links" : Str) = "_near") := by decide +kernel
theorem look_modes {a b c : V} : (putF "links" a (putF "_near" b (putF "modes" c []))).lookup ("modes" : Str) = some c := by
  rw [lookup_putF, if_neg (fun z => k_lm z.symm), lookup_putF, if_neg (fun z => k_nm z.symm), lookup_putF, if_pos rfl]
theorem look_links {a b c : V} : (putF "links" a (putF "_near" b (putF "modes" c []))).lookup ("links" : Str) = some a := by
  rw [lookup_putF, if_pos rfl]
theorem look_near {a b c : V} : (putF "links" a (putF "_near" b (putF "modes" c []))).lookup ("_near" : Str) = some b := by
  rw [lookup_putF, if_neg (fun z => k_ln z.symm), lookup_putF, if_pos rfl]
/-- sorted rows: what linked_sites makes of rows -/
def spNet (K : PySem.W.Frag) (C CI : Addr) : Sp := fun vs H Q E => ∃ (s dx : Addr) (x z : V) (o : Option (List V)), vs = [.ref s, x, z] ∧ H s = some (.ins C dx []) ∧ SqX K H x o ∧
  (o = none → ErrX CI E s H 0) ∧ (o = some [] → ErrX CI E s H 0) ∧
  ∀ xs, o = some xs → xs ≠ [] → ∃ os, Paired (Kin K H) xs os ∧
    (∀ (i : Nat) o, os[i]? = some o → (∀ j o', j < i → os[j]? = some o' → bel4 o' = true) → bel4 o = false → ErrX CI E s H i) ∧
    ((∀ o ∈ os, bel4 o = true) → xs.length < 1000 ∧ ∃ ms : List Int, xs = ms.map V.int ∧ ∃ o2, SqX K H z o2 ∧ (o2 = none → ErrX CI E s H ms.length) ∧
      ∀ zs, o2 = some zs → ∃ es, Paired (LkIs K H ms.length) zs es ∧
        (∀ (i : Nat) e R, es[i]? = some e → runP (emptyR ms.length) (es.take i) = some R → okL R e = false → ErrX CI E s H (ms.length + i)) ∧
        (∀ R, runP (emptyR ms.length) es = some R → Le4 R → ∀ H' R', Ex s H H' → Paired (fun (a b : List Int) => a.Perm b ∧ a.Pairwise (· ≤ ·)) R' R → NetAt C H' s ms R' (edgesFrom 0 R') → Q .non H'))
section
variable {P : Program} {w : World} {K : PySem.W.Frag} {mg : Str → Option Value} {base : Heap} (T : TX K mg)
theorem G_Network_init : FnOk P w K mg base (L2.CX P w) 6 T.f_Network_init T.d_Network_init ["self", "modes", "links"] (spNet K T.c_Network T.c_InvalidNetwork) := by
  refine T.F_Network_init.okX sc_Network_init (fun vs H Q E h => ?_) fun cdv A outer s H vs Q E hr h => ⟨_, (pss_cons (ps_fldK (K := K) (pv 0) (pe_call (G_checked_modes T) (hr.mono (by decide)) (by rfl) T.m_checked_modes T.F_checked_modes.kp T.b_checked_modes .nil (passes_call (takes_of rfl rfl rfl rfl) fun _ _ _ _ z => z) (by exact (pa_cons (pv 1) pa_nil)))) (pss_cons (ps_fldK (K := K) (pv 0) (pe_call (G_linked_sites T) (hr.mono (by decide)) (by rfl) T.m_linked_sites T.F_linked_sites.kp T.b_linked_sites .nil (passes_call (takes_of rfl rfl rfl rfl) fun _ _ _ _ z => z) (by exact (pa_cons (pe_callB (cr_lenK (K := K)) (by rfl) T.n_len (by decide +kernel) (by exact (pa_cons (pe_fldK (K := K) (pv 0)) pa_nil))) (pa_cons (pv 2) pa_nil))))) (pss_one (ps_fldK (K := K) (pv 0) (pe_tupleK (K := K) (by rfl) T.n_tuple (by exact (pe_lc2 (own := [("one", 3), ("near", 4), ("other", 5)]) (vs1 := [5]) (by rfl) sc_Network_init.nd (pi_enumTK (K := K) (by rfl) T.n_enumerate (by exact (pa_cons (pe_fldK (K := K) (pv 0)) pa_nil))) (blkOk_by (own := [("one", 3), ("near", 4), ("other", 5)]) (N := N_Network_init) (sc := defScope s_Network_init) (by decide +kernel)) (by decide) (fun _ _ _ _ _ => (pg_tupK (K := K) (n := 2) (by rfl) (pgs_cons (pg_name (i := 3) sc_Network_init.nd rfl (.inl rfl)) (pgs_cons (pg_name (i := 4) sc_Network_init.nd rfl (.inl rfl)) pgs_nil)))) (fun _ _ _ _ _ => pts_nil) (fun _ _ _ _ _ => (by exact (pi_tupK (K := K) (pv 4)))) (fun _ _ _ _ _ => (pg_name (i := 5) sc_Network_init.nd rfl (.inl rfl))) (fun _ _ _ _ _ => pts_one (pt_cmpR op_lt (pv 3) (pv 5) (nomark _))) (fun _ _ _ _ _ => (pe_tup (pa_cons (pv 3) (pa_cons (pv 5) pa_nil)))) ))))))), ?_⟩
  · obtain ⟨s, dx, x, z, o, rfl, _⟩ := h
    rfl
  · obtain ⟨s', dx, x, z, o, rfl, hs, hx, hE0, hE1, hM⟩ := h
    have sn : ∀ {H' : Hp}, Ex s' H H' → Sn H H' := fun h => h.sn hs
    walk_at "rd"
    refine ⟨x, o, rfl, hx, fun e H' d S hd => hE0 e H' d (.same S) hd, fun e H' d S hd => hE1 e H' d (.same S) hd, fun xs e h0 => ?_⟩
    obtain ⟨os, hos, hbad, hgood⟩ := hM xs e h0
    refine ⟨os, hos, fun i o h1 h2 h3 H' d S hd => hbad i o h1 h2 h3 H' d (.same S) hd, fun hall H1 pm S1 hpm => ?_⟩
    obtain ⟨hl, ms, rfl, o2, hz, hF0, hF⟩ := hgood hall
    walk_at "rd"
    refine ⟨s', _, dx, _, rfl, S1 _ _ hs, T.C_Network, T.A_Network_modes, by decide, ?_⟩
    have X2 : Ex s' H (upd H1 s' (.ins T.c_Network dx (putF "modes" (.ref pm) []))) := (Ex.same S1).trans .upd
    have hs2 : upd H1 s' (.ins T.c_Network dx (putF "modes" (.ref pm) [])) s' = some (.ins T.c_Network dx (putF "modes" (.ref pm) [])) := upd_same
    have hpm2 : Tup (upd H1 s' (.ins T.c_Network dx (putF "modes" (.ref pm) []))) pm (ms.map V.int) := tup_sn hpm ((Ex.upd (s := s')).sn (S1 _ _ hs))
    generalize upd H1 s' (.ins T.c_Network dx (putF "modes" (.ref pm) [])) = H2 at X2 hs2 hpm2
    walk_at "rd"
    refine ⟨s', _, dx, _, _, rfl, hs2, T.C_Network, T.A_Network_modes, by rw [lookup_putF, if_pos rfl], ?_⟩
    walk_at "rd"
    refine rd_lenTup hpm2 ?_
    walk_at "rd"
    rw [List.length_map]
    have len : ms.length < 1000 := by simpa using hl
    refine ⟨ms.length, z, o2, rfl, len, sqx_sn hz (sn X2), fun e H' d S hd => hF0 e H' d (X2.trans (.same S)) hd, fun zs e => ?_⟩
    obtain ⟨es, hes, hbad2, hgood2⟩ := hF zs e
    refine ⟨es, paired_mono hes fun a b h => lk_sn h (sn X2), fun i e R h1 h2 h3 H' d S hd => hbad2 i e R h1 h2 h3 H' d (X2.trans (.same S)) hd, fun R hR lR h4R H3 pn qs S3 hpn hqs => ?_⟩
    walk_at "rd"
    refine ⟨s', _, dx, _, rfl, S3 _ _ hs2, T.C_Network, T.A_Network__near, by show 1 < 1000; decide, ?_⟩
    have X4 : Ex s' H (upd H3 s' (.ins T.c_Network dx (putF "_near" (.ref pn) (putF "modes" (.ref pm) [])))) := (X2.trans (.same S3)).trans .upd
    have hs4 : upd H3 s' (.ins T.c_Network dx (putF "_near" (.ref pn) (putF "modes" (.ref pm) []))) s' = some (.ins T.c_Network dx (putF "_near" (.ref pn) (putF "modes" (.ref pm) []))) := upd_same
    have sn4 : Sn H3 (upd H3 s' (.ins T.c_Network dx (putF "_near" (.ref pn) (putF "modes" (.ref pm) [])))) := (Ex.upd (s := s')).sn (S3 _ _ hs2)
    have hpm4 := tup_sn (hpm2.same S3) sn4
    have hpn4 := sn4 _ _ (by intro _ _ _ z; cases z) hpn
    have hqs4 := paired_mono hqs fun q row (h : SrtAt H3 q row) => (show SrtAt _ q row from let ⟨ns, a, b, c⟩ := h; ⟨ns, a, b, tup_sn c sn4⟩)
    clear sn4
    generalize upd H3 s' (.ins T.c_Network dx (putF "_near" (.ref pn) (putF "modes" (.ref pm) []))) = H4 at X4 hs4 hpm4 hpn4 hqs4
    obtain ⟨R', hR', hqR⟩ : ∃ R' : List (List Int), Paired (fun (a b : List Int) => a.Perm b ∧ a.Pairwise (· ≤ ·)) R' R ∧ Paired (fun q (ns : List Int) => Tup H4 q (ns.map V.int)) qs R' := by
      clear hpn4 hpn hgood2 hqs hR lR h4R
      induction hqs4 with
      | nil => exact ⟨[], .nil, .nil⟩
      | cons h _ ih =>
        obtain ⟨ns, h1, h2, h3⟩ := h
        obtain ⟨R', a, b⟩ := ih
        exact ⟨ns :: R', .cons ⟨h1, h2⟩ a, .cons h3 b⟩
    walk_at "rd"
    unfold tLc2
    walk_at "rd"
    refine ⟨s', _, dx, _, _, rfl, hs4, T.C_Network, T.A_Network__near, by rw [lookup_putF, if_pos rfl], ?_⟩
    walk_at "rd"
    refine ⟨pn, _, rfl, SqT.of hpn4, fun D hD => ?_⟩
    have le' : ∀ row ∈ R', row.length ≤ 4 := by
      clear hqR hR lR hgood2 hqs hqs4
      induction hR' with
      | nil => intro row h; simp at h
      | @cons a b l m hab _ ih =>
        intro row h
        rcases List.mem_cons.mp h with e | e
        · rw [e, hab.1.length_eq]; exact h4R b List.mem_cons_self
        · exact ih (fun row h => h4R row (List.mem_cons_of_mem _ h)) row e
    have lqs := paired_len hqR
    have lR' := paired_len hR'
    refine it_wk (walk_enumT (K := K) (xs := qs.map V.ref)) (fun i H' => Same H4 H' ∧ ∃ ps : List Addr, H' D = some (.lst (ps.map V.ref)) ∧ Paired (PairAt H') ps (edgesFrom 0 (R'.take i)))
      ⟨Same.fresh hD, [], upd_same, .nil⟩ (fun i H' _ p => SqT.of (p.1 _ _ hpn4)) (fun i v H5 H6 hi p y => ?_) (fun H5 p => ?_)
    · obtain ⟨S5, ps, hps, hP⟩ := p
      obtain ⟨t, a, b, rfl, ht, rfl, ha, hb⟩ := y
      have ha : some (V.int (i : Nat)) = some a := ha
      cases ha
      have hb : (qs.map V.ref)[i]? = some b := hb
      rw [List.getElem?_map] at hb
      obtain ⟨q, hq, rfl⟩ := Option.map_eq_some_iff.mp hb
      obtain ⟨ns, hns, hqn⟩ := paired_get hqR hq
      have S6 : Same H5 (upd H5 t (.tup [.int (i : Nat), .ref q])) := Same.fresh ht
      have et : upd H5 t (.tup [.int (i : Nat), .ref q]) t = some (.tup [.int (i : Nat), .ref q]) := upd_same
      generalize upd H5 t (.tup [.int (i : Nat), .ref q]) = H6 at S6 et
      have hi' : i < ms.length := by
        rw [List.length_map] at hi
        omega
      have ln : ns.length ≤ 4 := le' ns (List.mem_of_getElem? hns)
      refine rd_gtup (Tup.of et) rfl ?_
      walk_at "rd"
      refine ⟨rfl, ?_⟩
      walk_at "rd"
      refine ⟨_, rfl, ⟨_, (hqn.same (S5.trans S6)).sq⟩, ?_⟩
      refine it_wk (walk_tup (K := K) (xs := ns.map V.int)) (fun j H' => Same H4 H' ∧ ∃ ps : List Addr, H' D = some (.lst (ps.map V.ref)) ∧ Paired (PairAt H') ps (edgesFrom 0 (R'.take i) ++ rowE i (ns.take j)))
        ⟨S5.trans S6, ps, S6 _ _ hps, by
          have e : rowE i (ns.take 0) = [] := rfl
          rw [e, List.append_nil]
          exact paired_mono hP fun a b h => S6 _ _ h⟩ (fun j H' _ p => (hqn.same p.1).sq) (fun j v H7 H8 hj p y => ?_) (fun H7 p => ?_)
      · obtain ⟨rfl, hx⟩ := y
        obtain ⟨S7, ps, hps, hP⟩ := p
        rw [List.getElem?_map] at hx
        obtain ⟨y, hy, rfl⟩ := Option.map_eq_some_iff.mp hx
        walk_at "rd"
        refine ⟨rfl, ?_⟩
        walk_at "rd"
        rw [rowE_take i hy]
        by_cases z : decide ((i : Int) < y) = true
        · refine iteT' z ?_
          rw [if_pos z]
          walk_at "rd"
          intro u H9 hu S9 hu9
          have hps9 := S9 _ _ hps
          have nu : u ≠ D := fun z => by rw [z, hps] at hu; cases hu
          refine ⟨_, hps9, ?_, Same.put (S7.trans S9) hD, ps ++ [u], by rw [upd_same]; simp, ?_⟩
          · rw [List.length_map, paired_len hP, List.length_append]
            have h1 := edges_len 0 (R'.take i) fun row hr => le' row (List.mem_of_mem_take hr)
            have h2 := rowE_len i (ns.take j)
            rw [List.length_take] at h1 h2
            exact Nat.lt_of_lt_of_le (by omega : _ < 5000) (by decide)
          · rw [← List.append_assoc]
            refine Paired.snoc (paired_mono hP fun a c (h : PairAt _ a c) => ?_) ?_
            · show upd H9 D _ a = _
              have h' : H9 a = _ := S9 _ _ h
              rw [upd_ne (fun z => by rw [z, hps9] at h'; cases h')]
              exact h'
            · show upd H9 D _ u = _
              rw [upd_ne nu]
              exact hu9
        · refine iteF' (by simpa using z) ?_
          rw [if_neg z, List.append_nil]
          exact ⟨S7, ps, hps, hP⟩
      · obtain ⟨S7, ps, hps, hP⟩ := p
        rw [List.length_map, List.take_length] at hP
        refine ⟨S7, ps, hps, ?_⟩
        rw [edges_take R' hns]
        exact hP
    · obtain ⟨S5, ps, hps, hP⟩ := p
      rw [List.length_map, lqs, List.take_length] at hP
      refine rd_tupL hps ?_
      intro pl H6 hpl S6 hpl6
      walk_at "rd"
      have S46 := S5.trans S6
      refine ⟨s', _, dx, _, rfl, S46 _ _ hs4, T.C_Network, T.A_Network_links, ?_, ?_⟩
      · have e : putF "_near" (V.ref pn) (putF "modes" (V.ref pm) []) = [(("modes" : Str), V.ref pm), ("_near", V.ref pn)] := by
          show (if ("modes" : Str) = "_near" then _ else (("modes" : Str), V.ref pm) :: putF "_near" (V.ref pn) []) = _
          rw [if_neg (fun z => k_nm z.symm)]
          rfl
        rw [e]
        show 2 < 1000
        decide
      walk_at "rd"
      have X7 : Ex s' H (upd H6 s' (.ins T.c_Network dx (putF "links" (.ref pl) (putF "_near" (.ref pn) (putF "modes" (.ref pm) []))))) := (X4.trans (.same S46)).trans .upd
      have sn7 : Sn H6 (upd H6 s' (.ins T.c_Network dx (putF "links" (.ref pl) (putF "_near" (.ref pn) (putF "modes" (.ref pm) []))))) := (Ex.upd (s := s')).sn (S46 _ _ hs4)
      refine hgood2 R hR h4R _ R' X7 hR' ⟨dx, pm, pn, pl, qs, ps, upd_same, tup_sn (hpm4.same S46) sn7, sn7 _ _ (by intro _ _ _ z; cases z) (S46 _ _ hpn4), paired_mono hqR fun a b h => tup_sn (Tup.same h S46) sn7, sn7 _ _ (by intro _ _ _ z; cases z) hpl6, paired_mono hP fun a b (h : PairAt _ a b) => sn7 _ _ (by intro _ _ _ z; cases z) (S6 _ _ h)⟩
/-- == of two networks -/
def spEqN (K : PySem.W.Frag) (C : Addr) : Sp := fun vs H Q _ => ∃ (p : Addr) (y : V) (ms : List Int) (R : List (List Int)) (L : List (Int × Int)), vs = [.ref p, y] ∧ NetAt C H p ms R L ∧ ms.length < 1000 ∧ L.length < 1000 ∧
  ((∃ n, TyX K H y (.type n) ∧ PySem.W.kitOne K (.type n) (.ref C) = some false ∧ Q (.bl false) H) ∨
   (∃ q ms' R' L', y = .ref q ∧ NetAt C H q ms' R' L' ∧ ms'.length < 1000 ∧ L'.length < 1000 ∧ Q (.bl (decide (ms = ms') && decide (L = L'))) H))
theorem G_Network_eq : FnOk P w K mg base CX0 1 T.f_Network_eq T.d_Network_eq ["self", "other"] (spEqN K T.c_Network) := by
  refine T.F_Network_eq.ok sc_Network_eq (fun vs H Q E h => ?_) fun cdv A outer s H vs Q E hr h => ⟨_, (pss_one (ps_ret (pe_and (pe_callB (cr_isiK (K := K)) (by rfl) T.n_isinstance (by decide +kernel) (by exact (pa_cons (pv 1) (pa_cons (pe_glob (v := .ref T.c_Network) rfl T.m_Network rfl) pa_nil)))) (pe_and (pe_cmpR (op_eqDK (K := K) hr.units) (pe_fldK (K := K) (pv 0)) (pe_fldK (K := K) (pv 1)) (nomark _)) (pe_one (pe_cmpR (op_eqDK (K := K) hr.units) (pe_fldK (K := K) (pv 0)) (pe_fldK (K := K) (pv 1)) (nomark _))))))), ?_⟩
  · obtain ⟨p, y, ms, R, L, rfl, _⟩ := h
    rfl
  · obtain ⟨p, y, ms, R, L, rfl, hN, l1, l2, h⟩ := h
    walk_at "rd"
    obtain ⟨dx, pm, pn, pl, qs, ps, hp, hpm, hpn, hqs, hpl, hps⟩ := hN.ob
    rcases h with ⟨n, ty, kit, hQ⟩ | ⟨q, ms', R', L', rfl, hN', l1', l2', hQ⟩
    · refine ⟨_, _, _, _, false, rfl, .own _, ty, kit, ?_⟩
      walk_at "rd"
      exact hQ
    · obtain ⟨dx', pm', pn', pl', qs', ps', hp', hpm', hpn', hqs', hpl', hps'⟩ := hN'.ob
      refine ⟨_, _, _, _, true, rfl, .own _, T.I_Network.ty hp', T.I_Network.kit, ?_⟩
      walk_at "rd"
      refine ⟨p, _, dx, _, _, rfl, hp, T.C_Network, T.A_Network_modes, look_modes, ?_⟩
      walk_at "rd"
      refine ⟨q, _, dx', _, _, rfl, hp', T.C_Network, T.A_Network_modes, look_modes, ?_⟩
      refine ⟨.tuple (ms.map PyData.int), .tuple (ms'.map PyData.int), .tup hpm.sq (dA_ints K H ms), .tup hpm'.sq (dA_ints K H ms'), dA_sh ms, dA_sh ms', ?_⟩
      have e1 : PyData.eqv (.tuple (ms.map PyData.int)) (.tuple (ms'.map PyData.int)) = decide (ms = ms') := dA_eqv ms ms'
      rw [e1]
      walk_at "rd"
      by_cases h1 : ms = ms'
      · rw [decide_eq_true h1, Bool.true_and] at hQ
        refine iteT' (decide_eq_true h1) ?_
        walk_at "rd"
        refine ⟨p, _, dx, _, _, rfl, hp, T.C_Network, T.A_Network_links, look_links, ?_⟩
        walk_at "rd"
        refine ⟨q, _, dx', _, _, rfl, hp', T.C_Network, T.A_Network_links, look_links, ?_⟩
        refine ⟨.tuple (L.map dP), .tuple (L'.map dP), .tup (SqT.of hpl) (dp_pairs hps), .tup (SqT.of hpl') (dp_pairs hps'), dP_shT L, dP_shT L', ?_⟩
        have e2 : PyData.eqv (.tuple (L.map dP)) (.tuple (L'.map dP)) = decide (L = L') := dP_eqv L L'
        rw [e2]
        exact hQ
      · rw [decide_eq_false h1, Bool.false_and] at hQ
        refine iteF' (decide_eq_false h1) ?_
        walk_at "rd"
        exact hQ
end
end K04

namespace K04
open PySem PySem.Spec PyProof.Rows L2 KX
/-! ### lists of links -/
/-- whether a link meets a site -/
def inc (s : Int) (e : Int × Int) : Bool := decide (e.1 = s) || decide (e.2 = s)
def norm (e : Int × Int) : Int × Int := if e.1 ≤ e.2 then e else (e.2, e.1)
/-- the links, the lesser site first, unlike, at most d at a site -/
structure Good (n : Nat) (d : Nat) (L : List (Int × Int)) : Prop where
  rng : ∀ e ∈ L, 0 ≤ e.1 ∧ e.1 < e.2 ∧ e.2 < n
  nd : L.Nodup
  deg : ∀ s : Int, (L.filter (inc s)).length ≤ d
def lexlt (e f : Int × Int) : Prop := e.1 < f.1 ∨ e.1 = f.1 ∧ e.2 < f.2
/-- who is linked to a, in the order of the links, each way round -/
def nb (M : List (Int × Int)) (a : Int) : List Int := M.filterMap fun e => if e.1 = a then some e.2 else if e.2 = a then some e.1 else none
theorem nb_append (M M' : List (Int × Int)) (a : Int) : nb (M ++ M') a = nb M a ++ nb M' a := by unfold nb; exact List.filterMap_append
theorem nb_one (x y a : Int) : nb [(x, y)] a = if x = a then [y] else if y = a then [x] else [] := by
  unfold nb
  by_cases h1 : x = a
  · simp [h1]
  · by_cases h2 : y = a <;> simp [h1, h2]
theorem mem_nb {M : List (Int × Int)} {a b : Int} (h : b ∈ nb M a) : (a, b) ∈ M ∨ (b, a) ∈ M := by
  unfold nb at h
  obtain ⟨⟨x, y⟩, hm, he⟩ := List.mem_filterMap.mp h
  by_cases h1 : x = a
  · simp [h1] at he
    left; rw [← h1, ← he]; exact hm
  · by_cases h2 : y = a
    · simp [h1, h2] at he
      right; rw [← h2, ← he]; exact hm
    · simp [h1, h2] at he
theorem nb_mem {M : List (Int × Int)} {a b : Int} (ne : a ≠ b) (h : (a, b) ∈ M ∨ (b, a) ∈ M) : b ∈ nb M a := by
  unfold nb
  rcases h with h | h
  · exact List.mem_filterMap.mpr ⟨_, h, by simp⟩
  · exact List.mem_filterMap.mpr ⟨_, h, by simp [Ne.symm ne]⟩
/-- the length of the row: how many links meet the site -/
theorem nb_len (M : List (Int × Int)) (a : Int) : (nb M a).length = (M.filter (inc a)).length := by
  induction M with
  | nil => rfl
  | cons e M ih =>
    obtain ⟨x, y⟩ := e
    have h : nb ((x, y) :: M) a = nb [(x, y)] a ++ nb M a := nb_append [(x, y)] M a
    rw [h, nb_one, List.length_append, ih]
    by_cases h1 : x = a
    · simp [inc, h1]; omega
    · by_cases h2 : y = a
      · simp [inc, h1, h2]; omega
      · simp [inc, h1, h2]
theorem inc_norm (a : Int) (e : Int × Int) : inc a (norm e) = inc a e := by
  unfold norm
  split
  · rfl
  · show (decide (e.2 = a) || decide (e.1 = a)) = (decide (e.1 = a) || decide (e.2 = a))
    exact Bool.or_comm _ _
theorem norm_inj {x y u v : Int} (h : norm (x, y) = norm (u, v)) : (x = u ∧ y = v) ∨ (x = v ∧ y = u) := by
  unfold norm at h
  simp only at h
  split at h <;> split at h <;> simp at h <;> omega
/-! ### running through good links -/
theorem addR_nb {n : Nat} {R : List (List Int)} {M : List (Int × Int)} {a b : Int} (l : R.length = n) (hR : ∀ c : Int, 0 ≤ c → c < n → rowOf R c = nb M c) (a0 : 0 ≤ a) (a1 : a < n) (b0 : 0 ≤ b) (b1 : b < n) (ne : a ≠ b) :
    ∀ c : Int, 0 ≤ c → c < n → rowOf (addR R (some (a, b))) c = nb (M ++ [(a, b)]) c := by
  intro c c0 c1
  have h : nb (M ++ [(a, b)]) c = nb M c ++ nb [(a, b)] c := nb_append _ _ _
  rw [h, nb_one]
  show rowOf (appR (appR R a b) b a) c = _
  by_cases ha : a = c
  · subst ha
    rw [if_pos rfl, rowOf_app (by omega), rowOf_app_self (by omega), hR a a0 a1]
  · rw [if_neg ha]
    by_cases hb : b = c
    · subst hb
      rw [if_pos rfl, rowOf_app_self (by rw [appR_len]; omega), rowOf_app (by omega), hR b b0 b1]
    · rw [if_neg hb, rowOf_app (by omega), rowOf_app (by omega), hR c c0 c1, List.append_nil]
/-- the entries in turn: each can be linked behind those before -/
def Runs (n : Nat) (M : List (Int × Int)) : Prop := ∀ (i : Nat) (e : Int × Int), M[i]? = some e →
  0 ≤ e.1 ∧ e.1 < n ∧ 0 ≤ e.2 ∧ e.2 < n ∧ e.1 ≠ e.2 ∧ e.2 ∉ nb (M.take i) e.1 ∧ (nb (M.take i) e.1).length < 4 ∧ (nb (M.take i) e.2).length < 4
theorem rowOf_empty (n : Nat) (c : Int) : rowOf (emptyR n) c = [] := by
  unfold rowOf emptyR
  rw [List.getD_eq_getElem?_getD, List.getElem?_replicate]
  split <;> rfl
theorem runs_nb {n : Nat} {M : List (Int × Int)} (h : Runs n M) : ∀ i, i ≤ M.length → ∃ R, runP (emptyR n) ((M.take i).map some) = some R ∧ R.length = n ∧ ∀ c : Int, 0 ≤ c → c < n → rowOf R c = nb (M.take i) c := by
  intro i
  induction i with
  | zero => intro _; exact ⟨emptyR n, rfl, by simp [emptyR], fun c _ _ => by rw [rowOf_empty]; rfl⟩
  | succ i ih =>
    intro hi
    obtain ⟨R, hR, hl, hr⟩ := ih (by omega)
    obtain ⟨e, he⟩ : ∃ e, M[i]? = some e := ⟨_, List.getElem?_eq_getElem (by omega)⟩
    obtain ⟨a, b⟩ := e
    obtain ⟨a0, a1, b0, b1, ne, h1, h2, h3⟩ := h i _ he
    have et : M.take (i + 1) = M.take i ++ [(a, b)] := by rw [List.take_succ, he]; rfl
    have ok : okL R (some (a, b)) = true := by
      show (!decide (b ∈ rowOf R a) && (decide ((rowOf R a).length < 4) && decide ((rowOf R b).length < 4))) = true
      rw [hr a a0 a1, hr b b0 b1, decide_eq_false h1, decide_eq_true h2, decide_eq_true h3]; rfl
    refine ⟨addR R (some (a, b)), ?_, by rw [addR_len]; exact hl, ?_⟩
    · rw [et, List.map_append]
      show runP (emptyR n) ((M.take i).map some ++ [some (a, b)]) = _
      rw [runP_snoc, hR]
      show stepL R (some (a, b)) = _
      unfold stepL
      rw [if_pos ok]
    · rw [et]
      exact addR_nb hl hr a0 a1 b0 b1 ne
theorem filter_len_le {M : List (Int × Int)} {p : Int × Int → Bool} {i : Nat} {e : Int × Int} (h : M[i]? = some e) (hp : p e = true) : ((M.take i).filter p).length < (M.filter p).length := by
  have hi := (List.getElem?_eq_some_iff.mp h).1
  have e1 : M = M.take (i + 1) ++ M.drop (i + 1) := (List.take_append_drop _ _).symm
  have et : M.take (i + 1) = M.take i ++ [e] := by rw [List.take_succ, h]; rfl
  have z : (M.filter p).length = ((M.take (i + 1)).filter p).length + ((M.drop (i + 1)).filter p).length := by
    have e2 : M.filter p = (M.take (i + 1)).filter p ++ (M.drop (i + 1)).filter p := by
      rw [← List.filter_append, List.take_append_drop]
    rw [e2, List.length_append]
  rw [z, et, List.filter_append, List.length_append]
  simp [hp]
  omega
theorem perm_filter_len {L M : List (Int × Int)} (h : L.Perm M) (p : Int × Int → Bool) : (L.filter p).length = (M.filter p).length := (h.filter p).length_eq
theorem map_norm_filter (M : List (Int × Int)) (a : Int) : ((M.map norm).filter (inc a)).length = (M.filter (inc a)).length := by
  rw [List.filter_map, List.length_map]
  have e : (inc a ∘ norm) = inc a := funext fun x => inc_norm a x
  rw [e]
/-- links, each way round, in any order -/
theorem runs_of {n : Nat} {L M : List (Int × Int)} (g : Good n 4 L) (h : (M.map norm).Perm L) : Runs n M := by
  intro i e he
  have hm := List.mem_of_getElem? he
  have hi := (List.getElem?_eq_some_iff.mp he).1
  have hn : norm e ∈ L := h.mem_iff.mp (List.mem_map.mpr ⟨e, hm, rfl⟩)
  obtain ⟨r0, r1, r2⟩ := g.rng _ hn
  obtain ⟨x, y⟩ := e
  have rr : 0 ≤ x ∧ x < n ∧ 0 ≤ y ∧ y < n ∧ x ≠ y := by
    unfold norm at r0 r1 r2
    simp only at r0 r1 r2
    split at r0 <;> simp_all <;> omega
  obtain ⟨a0, a1, b0, b1, ne⟩ := rr
  refine ⟨a0, a1, b0, b1, ne, fun hb => ?_, ?_, ?_⟩
  · -- twice the same link
    have nd : (M.map norm).Nodup := h.nodup_iff.mpr g.nd
    have : ∃ f ∈ M.take i, norm f = norm (x, y) := by
      rcases mem_nb hb with z | z
      · exact ⟨_, z, rfl⟩
      · refine ⟨_, z, ?_⟩
        unfold norm
        simp only
        split <;> split <;> simp <;> omega
    obtain ⟨f, hf, hff⟩ := this
    obtain ⟨j, hj⟩ := List.getElem?_of_mem hf
    have hji : j < i := by
      have := (List.getElem?_eq_some_iff.mp hj).1
      rw [List.length_take] at this
      omega
    rw [List.getElem?_take_of_lt hji] at hj
    have e1 : (M.map norm)[j]? = some (norm (x, y)) := by rw [List.getElem?_map, hj]; simp [hff]
    have e2 : (M.map norm)[i]? = some (norm (x, y)) := by rw [List.getElem?_map, he]; rfl
    have := (List.getElem?_inj (by rw [List.length_map]; omega) nd).mp (e1.trans e2.symm)
    omega
  · rw [nb_len]
    show ((M.take i).filter (inc x)).length < 4
    have h1 := filter_len_le (p := inc x) he (by simp [inc])
    have h2 := map_norm_filter M x
    have h3 := perm_filter_len h (inc x)
    have h4 := g.deg x
    omega
  · rw [nb_len]
    show ((M.take i).filter (inc y)).length < 4
    have h1 := filter_len_le (p := inc y) he (by simp [inc])
    have h2 := map_norm_filter M y
    have h3 := perm_filter_len h (inc y)
    have h4 := g.deg y
    omega
/-! ### the links of the sorted rows -/
theorem lex_uniq : ∀ {L M : List (Int × Int)}, L.Pairwise lexlt → M.Pairwise lexlt → (∀ e, e ∈ L ↔ e ∈ M) → L = M
  | [], [], _, _, _ => rfl
  | [], m :: M, _, _, h => by have := (h m).mpr List.mem_cons_self; simp at this
  | l :: L, [], _, _, h => by have := (h l).mp List.mem_cons_self; simp at this
  | l :: L, m :: M, hl, hm, h => by
    obtain ⟨l1, l2⟩ := List.pairwise_cons.mp hl
    obtain ⟨m1, m2⟩ := List.pairwise_cons.mp hm
    have e : l = m := by
      rcases List.mem_cons.mp ((h l).mp List.mem_cons_self) with z | z
      · exact z
      · rcases List.mem_cons.mp ((h m).mpr List.mem_cons_self) with y | y
        · exact y.symm
        · have a := m1 l z
          have b := l1 m y
          exfalso
          unfold lexlt at a b
          omega
    subst e
    have : L = M := lex_uniq l2 m2 fun e => by
      constructor
      · intro he
        rcases List.mem_cons.mp ((h e).mp (List.mem_cons_of_mem _ he)) with z | z
        · exfalso
          have := l1 e he
          rw [z] at this
          unfold lexlt at this
          omega
        · exact z
      · intro he
        rcases List.mem_cons.mp ((h e).mpr (List.mem_cons_of_mem _ he)) with z | z
        · exfalso
          have := m1 e he
          rw [z] at this
          unfold lexlt at this
          omega
        · exact z
    rw [this]
theorem mem_edges : ∀ (R : List (List Int)) (k : Nat) (e : Int × Int), e ∈ edgesFrom k R ↔ ∃ (i : Nat) (row : List Int), R[i]? = some row ∧ e.1 = ((k + i : Nat) : Int) ∧ e.2 ∈ row ∧ e.1 < e.2
  | [], k, e => by simp [edgesFrom]
  | r :: R, k, e => by
    have ih := mem_edges R (k + 1) e
    show e ∈ rowE k r ++ edgesFrom (k + 1) R ↔ _
    rw [List.mem_append, ih]
    constructor
    · rintro (h | ⟨i, row, h1, h2, h3⟩)
      · unfold rowE at h
        obtain ⟨j, hj, rfl⟩ := List.mem_map.mp h
        obtain ⟨h1, h2⟩ := List.mem_filter.mp hj
        exact ⟨0, r, rfl, by simp, h1, by simpa using h2⟩
      · exact ⟨i + 1, row, by simpa using h1, by rw [h2]; omega, h3⟩
    · rintro ⟨i, row, h1, h2, h3, h4⟩
      cases i with
      | zero =>
        left
        simp at h1
        subst h1
        unfold rowE
        obtain ⟨x, y⟩ := e
        have h2 : x = (k : Int) := by simpa using h2
        subst h2
        exact List.mem_map.mpr ⟨y, List.mem_filter.mpr ⟨h3, by simpa using h4⟩, rfl⟩
      | succ i => exact .inr ⟨i, row, by simpa using h1, by rw [h2]; omega, h3, h4⟩
theorem edges_lex : ∀ (R : List (List Int)) (k : Nat), (∀ row ∈ R, row.Pairwise (· < ·)) → (edgesFrom k R).Pairwise lexlt
  | [], k, _ => .nil
  | r :: R, k, h => by
    show (rowE k r ++ edgesFrom (k + 1) R).Pairwise lexlt
    refine List.pairwise_append.mpr ⟨?_, edges_lex R (k + 1) fun row hr => h row (List.mem_cons_of_mem _ hr), fun a ha b hb => ?_⟩
    · unfold rowE
      refine List.pairwise_map.mpr (List.Pairwise.filter _ ((h r List.mem_cons_self).imp fun hab => .inr ⟨rfl, hab⟩))
    · unfold rowE at ha
      obtain ⟨j, _, rfl⟩ := List.mem_map.mp ha
      obtain ⟨i, row, _, e, _⟩ := (mem_edges R (k + 1) b).mp hb
      left
      show (k : Int) < b.1
      omega
theorem nb_nodup {M : List (Int × Int)} {a : Int} (h : ∀ i e, M[i]? = some e → e.1 ≠ e.2 ∧ e.2 ∉ nb (M.take i) e.1 ∧ e.1 ∉ nb (M.take i) e.2) : (nb M a).Nodup := by
  have gen : ∀ i, i ≤ M.length → (nb (M.take i) a).Nodup := by
    intro i
    induction i with
    | zero => intro _; exact .nil
    | succ i ih =>
      intro hi
      obtain ⟨e, he⟩ : ∃ e, M[i]? = some e := ⟨_, List.getElem?_eq_getElem (by omega)⟩
      obtain ⟨x, y⟩ := e
      obtain ⟨ne, h1, h2⟩ := h i _ he
      have et : M.take (i + 1) = M.take i ++ [(x, y)] := by rw [List.take_succ, he]; rfl
      rw [et, nb_append, nb_one]
      by_cases hx : x = a
      · rw [if_pos hx]
        subst hx
        exact List.nodup_append.mpr ⟨ih (by omega), by simp, fun u hu v hv => by
          rw [List.mem_singleton.mp hv]
          exact fun z => h1 (by rw [← z]; exact hu)⟩
      · rw [if_neg hx]
        by_cases hy : y = a
        · rw [if_pos hy]
          subst hy
          exact List.nodup_append.mpr ⟨ih (by omega), by simp, fun u hu v hv => by
            rw [List.mem_singleton.mp hv]
            exact fun z => h2 (by rw [← z]; exact hu)⟩
        · rw [if_neg hy, List.append_nil]
          exact ih (by omega)
  have := gen M.length (Nat.le_refl _)
  rwa [List.take_length] at this
theorem le_lt_of_nodup {l : List Int} (h : l.Pairwise (· ≤ ·)) (nd : l.Nodup) : l.Pairwise (· < ·) := by
  have : l.Pairwise (fun a b => a ≤ b ∧ a ≠ b) := h.and nd
  exact this.imp fun ⟨a, b⟩ => by omega
/-- what the rows of good links tell: the links again -/
theorem edges_back {n : Nat} {L M : List (Int × Int)} {R R' : List (List Int)} (g : Good n 4 L) (s : L.Pairwise lexlt) (h : (M.map norm).Perm L) (hR : runP (emptyR n) (M.map some) = some R)
    (p : Paired (fun (a b : List Int) => a.Perm b ∧ a.Pairwise (· ≤ ·)) R' R) : edgesFrom 0 R' = L := by
  have rs := runs_of g h
  obtain ⟨R0, hR0, hl, hr⟩ := runs_nb rs M.length (Nat.le_refl _)
  rw [List.take_length] at hR0 hr
  rw [hR] at hR0
  cases hR0
  have sym : ∀ i e, M[i]? = some e → e.1 ≠ e.2 ∧ e.2 ∉ nb (M.take i) e.1 ∧ e.1 ∉ nb (M.take i) e.2 := fun i e he => by
    obtain ⟨_, _, _, _, ne, h1, _⟩ := rs i e he
    refine ⟨ne, h1, fun z => h1 ?_⟩
    exact nb_mem ne ((mem_nb z).symm)
  have rowN : ∀ i row, R[i]? = some row → row = nb M ((i : Nat) : Int) ∧ i < n := fun i row e => by
    have hi := (List.getElem?_eq_some_iff.mp e).1
    have := hr ((i : Nat) : Int) (by omega) (by omega)
    unfold rowOf at this
    rw [List.getD_eq_getElem?_getD] at this
    have e' : R[((i : Nat) : Int).toNat]? = some row := by simpa using e
    rw [e'] at this
    exact ⟨this, by omega⟩
  have rowP : ∀ i row', R'[i]? = some row' → row'.Perm (nb M ((i : Nat) : Int)) ∧ row'.Pairwise (· ≤ ·) ∧ i < n := fun i row' e => by
    obtain ⟨row, h1, h2, h3⟩ := paired_get p e
    obtain ⟨h4, h5⟩ := rowN i row h1
    exact ⟨by rw [← h4]; exact h2, h3, h5⟩
  refine lex_uniq (edges_lex R' 0 fun row' hr' => ?_) s fun e => ?_
  · obtain ⟨i, hi⟩ := List.getElem?_of_mem hr'
    obtain ⟨h1, h2, _⟩ := rowP i row' hi
    exact le_lt_of_nodup h2 (h1.nodup_iff.mpr (nb_nodup sym))
  · rw [mem_edges]
    obtain ⟨x, y⟩ := e
    constructor
    · rintro ⟨i, row', h1, h2, h3, h4⟩
      obtain ⟨h5, _, h6⟩ := rowP i row' h1
      have h2 : x = (i : Int) := by simpa using h2
      subst h2
      have h4 : (i : Int) < y := h4
      have h7 := mem_nb (h5.mem_iff.mp h3)
      have : ∃ f ∈ M, norm f = ((i : Int), y) := by
        rcases h7 with z | z
        · exact ⟨_, z, by unfold norm; simp only; rw [if_pos (by omega)]⟩
        · exact ⟨_, z, by unfold norm; simp only; rw [if_neg (by omega)]⟩
      obtain ⟨f, hf, e⟩ := this
      exact h.mem_iff.mp (List.mem_map.mpr ⟨f, hf, e⟩)
    · intro he
      obtain ⟨r0, r1, r2⟩ := g.rng _ he
      have r0 : 0 ≤ x := r0
      have r1 : x < y := r1
      have r2 : y < n := r2
      obtain ⟨f, hf, e⟩ := List.mem_map.mp (h.mem_iff.mpr he)
      have lenR : R'.length = R.length := paired_len p
      have hx : x.toNat < R'.length := by omega
      refine ⟨x.toNat, R'[x.toNat], List.getElem?_eq_getElem hx, by simp; omega, ?_, r1⟩
      obtain ⟨h5, _, _⟩ := rowP x.toNat _ (List.getElem?_eq_getElem hx)
      have ex : ((x.toNat : Nat) : Int) = x := by omega
      rw [ex] at h5
      refine h5.mem_iff.mpr (nb_mem (by show x ≠ y; omega) ?_)
      show (x, y) ∈ M ∨ (y, x) ∈ M
      obtain ⟨u, v⟩ := f
      unfold norm at e
      simp only at e
      split at e
      · cases e; exact .inl hf
      · cases e; exact .inr hf
end K04

namespace K04
open PySem PySem.Spec PyProof.Rows L2 KX
local macro_rules | `(tactic| walk_at "rd1") => `(tactic| first
  | with_reducible refine rd_seq ?_
  | with_reducible refine rd_asg ?_
  | ((with_reducible refine' rd_var ?rdv ?_); (case rdv => exact rfl))
  | with_reducible refine rd_c ?_
  | with_reducible refine rd_op ?_
  | with_reducible refine rd_un ?_
  | with_reducible refine rd_cons ?_
  | with_reducible refine rd_nil ?_
  | with_reducible refine rd_call ?_
  | with_reducible refine rd_cb ?_
  | with_reducible refine rd_tB ?_
  | with_reducible refine rd_test ?_
  | with_reducible refine rd_bl ?_
  | with_reducible refine rd_rI0 ?_
  | with_reducible refine rd_eqI ?_
  | with_reducible refine rd_neI ?_
  | with_reducible refine rd_rU ?_
  | with_reducible refine rd_name ?_
  | with_reducible refine rd_ifs ?_
  | with_reducible refine rd_and ?_
  | with_reducible refine rd_or ?_
  | with_reducible refine rd_not ?_
  | with_reducible refine rd_yes ?_
  | with_reducible refine rd_andV ?_
  | with_reducible refine rd_orV ?_
  | with_reducible refine rd_notV ?_
  | with_reducible refine rd_if ?_
  | with_reducible refine rd_isN ?_
  | with_reducible refine rd_iT ?_
  | with_reducible refine rd_iF ?_
  | with_reducible refine rd_ret ?_
  | with_reducible refine rd_retN ?_
  | with_reducible refine rd_drop ?_
  | with_reducible refine rd_next ?_
  | with_reducible refine rd_cont ?_
  | with_reducible refine rd_brk ?_
  | with_reducible refine rd_nx ?_
  | with_reducible refine rd_rt ?_
  | with_reducible refine rd_ct ?_
  | with_reducible refine rd_bk ?_
  | with_reducible refine rd_par ?_
  | with_reducible refine rd_par3 ?_
  | with_reducible refine rd_par2 ?_
  | with_reducible refine rd_par33 ?_
  | with_reducible refine rd_gcons ?_
  | with_reducible refine rd_gnil ?_
  | with_reducible refine rd_sub ?_
  | with_reducible refine rd_tup ?_
  | with_reducible refine rd_lst ?_
  | ((with_reducible refine rd_tupT ?hl ?_); (case hl => exact Nat.le_of_ble_eq_true rfl))
  | ((with_reducible refine rd_lstT ?hl ?_); (case hl => exact Nat.le_of_ble_eq_true rfl))
  | with_reducible refine rd_bm ?_
  | with_reducible refine rd_bm0 ?_
  | with_reducible refine rd_sl ?_
  | with_reducible refine rd_noP ?_
  | with_reducible refine rd_part ?_
  | with_reducible refine rd_int ?_
  | with_reducible refine rd_int1 ?_
  | with_reducible refine rd_fld ?_
  | with_reducible refine rd_then ?_
  | with_reducible refine rd_raise ?_
  | with_reducible refine rd_one ?_
  | with_reducible refine rd_sfld ?_
  | with_reducible refine rd_ilist ?_
  | with_reducible refine rd_itup ?_
  | with_reducible refine rd_rng1 ?_
  | with_reducible refine rd_enum ?_
  | with_reducible refine rd_enumT ?_)
local macro_rules | `(tactic| walk_at "rd") => `(tactic| repeat (walk_at "rd1"))
theorem Deal.new {H : Hp} {p q a : Addr} {o : HO} (d : Deal H p q) (n : H a = none) : Deal (upd H a o) p q ∧ a ≠ p ∧ a ≠ q := by
  obtain ⟨ns, b, d⟩ := d
  exact ⟨⟨ns, b, DealAt.new d n⟩, (fun z => by have h := d.hp; rw [← z, n] at h; cases h), (fun z => by have h := d.hq; rw [← z, n] at h; cases h)⟩
theorem Deal.off {H : Hp} {p q a : Addr} {o : HO} (d : Deal H p q) (h1 : a ≠ p) (h2 : a ≠ q) : Deal (upd H a o) p q := by
  obtain ⟨ns, b, d⟩ := d
  exact ⟨ns, b, by rw [upd_ne (Ne.symm h1)]; exact d.hp, by rw [upd_ne (Ne.symm h2)]; exact d.hq, d.ne, d.nn, d.len, d.b0, d.b1⟩
theorem Fix.upd {p q D : Addr} {H H' : Hp} {o : HO} (f : Fix p q H H') (n : H D = none) : Fix p q H (L2.upd H' D o) := fun c u h1 h2 h => by
  rw [upd_ne (fun z => by rw [z, n] at h; cases h)]
  exact f c u h1 h2 h
theorem Fix.keep {H H' : Hp} {p q a : Addr} {o : HO} (f : Fix p q H H') (d : Deal H p q) (h : H a = some o) (n : ∀ xs, o ≠ .lst xs) : H' a = some o := by
  obtain ⟨ns, b, d⟩ := d
  refine f a o (fun e => ?_) (fun e => ?_) h
  · rw [e, d.hp] at h; exact n _ (Option.some.inj h).symm
  · rw [e, d.hq] at h; exact n _ (Option.some.inj h).symm
theorem Fix.free {H H' : Hp} {p q a : Addr} (f : Fix p q H H') (d : Deal H' p q) (h : H' a = none) : H a = none := by
  cases e : H a with
  | none => rfl
  | some o =>
    obtain ⟨ns, b, d⟩ := d
    by_cases h1 : a = p
    · rw [h1, d.hp] at h; cases h
    · by_cases h2 : a = q
      · rw [h2, d.hq] at h; cases h
      · rw [f a o h1 h2 e] at h; cases h
theorem map_erase {α β : Type} (f : α → β) : ∀ (l : List α) (i : Nat), (l.map f).eraseIdx i = (l.eraseIdx i).map f
  | [], _ => rfl
  | x :: l, 0 => rfl
  | x :: l, i + 1 => by
    show f x :: (l.map f).eraseIdx i = f x :: (l.eraseIdx i).map f
    rw [map_erase f l i]
theorem erase_perm {α : Type} : ∀ (l : List α) (i : Nat) (h : i < l.length), (l[i] :: l.eraseIdx i).Perm l
  | x :: l, 0, _ => List.Perm.refl _
  | x :: l, i + 1, h => by
    have h' : i < l.length := by simpa using h
    show (l[i] :: x :: l.eraseIdx i).Perm (x :: l)
    exact (List.Perm.swap x l[i] (l.eraseIdx i)).trans ((erase_perm l i h').cons x)
theorem seqIx {i : Int} {n : Nat} (h0 : 0 ≤ i) (h1 : i < n) : seqIndex? i n = some i.toNat := by
  have h : ixN n i = some i.toNat := by
    unfold ixN
    rw [if_pos h0]
    first
      | (rw [if_pos (by omega)])
      | (split <;> first | rfl | omega)
  exact (ixN_seq h).1
theorem Deal.nes {H : Hp} {p q a : Addr} (d : Deal H p q) (n : H a = none) : a ≠ p ∧ a ≠ q := by
  obtain ⟨ns, b, d⟩ := d
  exact ⟨(fun z => by have h := d.hp; rw [← z, n] at h; cases h), (fun z => by have h := d.hq; rw [← z, n] at h; cases h)⟩
/-! ### sorted pairs -/
def pairO : Option HO → Int × Int
  | some (.tup [.int a, .int b]) => (a, b)
  | _ => (0, 0)
def keyOf (H : Hp) : V → Int × Int
  | .ref t => pairO (H t)
  | _ => (0, 0)
theorem keyOf_at {H : Hp} {t : Addr} {e : Int × Int} (h : PairAt H t e) : keyOf H (.ref t) = e := by
  show pairO (H t) = e
  have h : H t = _ := h
  rw [h]; rfl
def addrOf : V → Addr
  | .ref t => t
  | _ => 0
theorem rd_sortedP {K : PySem.W.Frag} {H : Hp} {Q : VK} {a : Addr} {ps : List Addr} {L : List (Int × Int)} (ha : H a = some (.lst (ps.map V.ref))) (hp : Paired (PairAt H) ps L) (nd : L.Nodup)
    (h : ∀ (qs : List Addr) (L' : List (Int × Int)), L'.Perm L → L'.Pairwise lexlt → Paired (PairAt H) qs L' → NewO H (.lst (qs.map V.ref)) Q) : rSortedPO K [.ref a] H Q := by
  have mem : ∀ x ∈ ps.map V.ref, ∃ t, x = V.ref t ∧ PairAt H t (keyOf H x) := fun x hx => by
    obtain ⟨t, ht, rfl⟩ := List.mem_map.mp hx
    obtain ⟨i, hi⟩ := List.getElem?_of_mem ht
    obtain ⟨e, _, he⟩ := paired_get hp hi
    exact ⟨t, rfl, by rw [keyOf_at he]; exact he⟩
  have keys : (ps.map V.ref).map (keyOf H) = L := by
    clear ha h nd mem
    induction hp with
    | nil => rfl
    | cons x _ ih => rw [List.map_cons, List.map_cons, ih, keyOf_at x]
  refine ⟨a, _, keyOf H, rfl, SqL.of ha, fun x hx => mem x hx, fun ys p srt stb hpn => ?_⟩
  have my : ∀ y ∈ ys, ∃ t, y = V.ref t ∧ PairAt H t (keyOf H y) := fun y hy => mem y (stb.perm.mem_iff.mp hy)
  have ey : (ys.map addrOf).map V.ref = ys := by
    clear stb srt
    induction ys with
    | nil => rfl
    | cons y ys ih =>
      obtain ⟨t, rfl, _⟩ := my y List.mem_cons_self
      rw [List.map_cons, List.map_cons, ih fun z hz => my z (List.mem_cons_of_mem _ hz)]
      rfl
  have py : Paired (PairAt H) (ys.map addrOf) (ys.map (keyOf H)) := by
    clear stb srt ey
    induction ys with
    | nil => exact .nil
    | cons y ys ih =>
      obtain ⟨t, rfl, ht⟩ := my y List.mem_cons_self
      exact .cons ht (ih fun z hz => my z (List.mem_cons_of_mem _ hz))
  have pm : (ys.map (keyOf H)).Perm L := by rw [← keys]; exact stb.perm.map _
  have lx : (ys.map (keyOf H)).Pairwise lexlt := by
    have ndy : (ys.map (keyOf H)).Pairwise (· ≠ ·) := pm.nodup_iff.mpr nd
    have s1 : (ys.map (keyOf H)).Pairwise fun e f => SrtO.lexB f e = false := List.pairwise_map.mpr srt
    exact (s1.and ndy).imp fun {e f} ⟨h1, h2⟩ => by
      have h3 := SrtO.lexB_no.mp h1
      obtain ⟨e1, e2⟩ := e
      obtain ⟨f1, f2⟩ := f
      have h4 : ¬ (e1 = f1 ∧ e2 = f2) := fun ⟨a, b⟩ => h2 (by rw [a, b])
      unfold lexlt
      simp only at h3 ⊢
      omega
  have := new_of (h (ys.map addrOf) (ys.map (keyOf H)) pm lx py) p hpn
  rw [ey] at this
  exact this
/-! ### what _law_links tells, by its form -/
def stepsOf (f n : Int) : List Int := if f = 0 then [1] else if f = 1 then [1] else if f = 2 then [1, 2] else if f = 3 then [1, n / 2] else []
def pairOf (a b : Int) : Int × Int := (if b < a then b else a, if b > a then b else a)
def stepC (n one : Int) (L : List (Int × Int)) (step : Int) : List (Int × Int) :=
  if one = (one + step) % n then L else if pairOf one ((one + step) % n) ∈ L then L else L ++ [pairOf one ((one + step) % n)]
def circ (n : Int) (steps : List Int) (i : Nat) : List (Int × Int) := (List.range i).foldl (fun L one => steps.foldl (stepC n (one : Nat)) L) []
def goodB (n d : Nat) (L : List (Int × Int)) : Bool :=
  L.all (fun e => decide (0 ≤ e.1) && (decide (e.1 < e.2) && decide (e.2 < (n : Int)))) && (decide L.Nodup && (List.range n).all fun s => decide ((L.filter (inc (s : Int))).length ≤ d))
theorem goodB_ok {n d : Nat} {L : List (Int × Int)} (h : goodB n d L = true) : Good n d L := by
  unfold goodB at h
  rw [Bool.and_eq_true, Bool.and_eq_true] at h
  obtain ⟨h1, h2, h3⟩ := h
  have rng : ∀ e ∈ L, 0 ≤ e.1 ∧ e.1 < e.2 ∧ e.2 < n := fun e he => by
    have := List.all_eq_true.mp h1 e he
    simpa using this
  refine ⟨rng, of_decide_eq_true h2, fun s => ?_⟩
  by_cases hs : 0 ≤ s ∧ s < n
  · have := List.all_eq_true.mp h3 s.toNat (List.mem_range.mpr (by omega))
    have e : ((s.toNat : Nat) : Int) = s := by omega
    rw [e] at this
    exact of_decide_eq_true this
  · have : L.filter (inc s) = [] := List.filter_eq_nil_iff.mpr fun e he => by
      obtain ⟨a, b, c⟩ := rng e he
      unfold inc
      simp
      omega
    rw [this]; exact Nat.zero_le _
theorem circ_good : ∀ n : Nat, 1 ≤ n → n < 10 → ∀ f : Nat, f < 4 → goodB n 4 (circ n (stepsOf f n) n) = true := by
  have h : ((List.range 10).all fun n => (List.range 4).all fun f => n == 0 || goodB n 4 (circ n (stepsOf f n) n)) = true := by decide +kernel
  intro n h1 h2 f hf
  have a := List.all_eq_true.mp h n (List.mem_range.mpr h2)
  have b := List.all_eq_true.mp a f (List.mem_range.mpr hf)
  have z : (n == 0) = false := by simp; omega
  rw [z, Bool.false_or] at b
  exact b
end K04

namespace K04
open PySem PySem.Spec PyProof.Rows L2 KX
theorem rd_for {wi : TI} {g : TG} {tb : TS} {D : Ends} {σ : L2.St} {H : Hp} (h : wi σ H fun J H1 => ∃ W : Nat → Nat → L2.St → Hp → Prop, (∃ m, W 0 m σ H1) ∧ ∀ i m σ H, W i m σ H →
    (J.stop i H ∧ D.nx σ H) ∨ (J.go i H ∧ ∃ N : L2.St → Hp → Prop, (∀ σ' H', N σ' H' → ∃ m', m' < m ∧ W (i + 1) m' σ' H') ∧ ∀ x H', J.yld i H x H' → g x σ H' fun σ2 H2 => tb { D with nx := N, ct := N, bk := D.nx } σ2 H2)) : tFor wi g tb D σ H := h
theorem rd_lc {wi : TI} {g : TG} {tt : TT} {te : TE} {vs : List Nat} {σ : L2.St} {H : Hp} {Q : VK} (h : wi σ H fun J H1 => ∀ D, H1 D = none → ∃ W : Nat → Nat → Hp → Prop, (∃ m, W 0 m (upd H1 D (.lst []))) ∧ ∀ i m H, W i m H →
    (J.stop i H ∧ Q (.ref D) H) ∨ (J.go i H ∧ ∃ Nx : Hp → Prop, (∀ H', Nx H' → ∃ m', m' < m ∧ W (i + 1) m' H') ∧ ∀ x H', J.yld i H x H' → g x (wipe σ vs) H' fun σ2 H2 => wipe σ2 vs = wipe σ vs ∧ tt σ2 H2 fun b H3 =>
      if b = true then te σ2 H3 fun y H4 => ∃ acc, H4 D = some (.lst acc) ∧ acc.length < sizeLine ∧ Nx (upd H4 D (.lst (acc ++ [y]))) else Nx H3)) : tLc wi g tt te vs σ H Q := h
local macro_rules | `(tactic| walk_at "rd1") => `(tactic| first
  | with_reducible refine rd_seq ?_
  | with_reducible refine rd_for ?_
  | with_reducible refine rd_lc ?_
  | with_reducible refine rd_asg ?_
  | ((with_reducible refine' rd_var ?rdv ?_); (case rdv => exact rfl))
  | with_reducible refine rd_c ?_
  | with_reducible refine rd_op ?_
  | with_reducible refine rd_un ?_
  | with_reducible refine rd_cons ?_
  | with_reducible refine rd_nil ?_
  | with_reducible refine rd_call ?_
  | with_reducible refine rd_cb ?_
  | with_reducible refine rd_tB ?_
  | with_reducible refine rd_test ?_
  | with_reducible refine rd_bl ?_
  | with_reducible refine rd_rI0 ?_
  | with_reducible refine rd_eqI ?_
  | with_reducible refine rd_neI ?_
  | with_reducible refine rd_rU ?_
  | with_reducible refine rd_name ?_
  | with_reducible refine rd_ifs ?_
  | with_reducible refine rd_and ?_
  | with_reducible refine rd_or ?_
  | with_reducible refine rd_not ?_
  | with_reducible refine rd_yes ?_
  | with_reducible refine rd_andV ?_
  | with_reducible refine rd_orV ?_
  | with_reducible refine rd_notV ?_
  | with_reducible refine rd_if ?_
  | with_reducible refine rd_isN ?_
  | with_reducible refine rd_iT ?_
  | with_reducible refine rd_iF ?_
  | with_reducible refine rd_ret ?_
  | with_reducible refine rd_retN ?_
  | with_reducible refine rd_drop ?_
  | with_reducible refine rd_next ?_
  | with_reducible refine rd_cont ?_
  | with_reducible refine rd_brk ?_
  | with_reducible refine rd_nx ?_
  | with_reducible refine rd_rt ?_
  | with_reducible refine rd_ct ?_
  | with_reducible refine rd_bk ?_
  | with_reducible refine rd_par ?_
  | with_reducible refine rd_par3 ?_
  | with_reducible refine rd_par2 ?_
  | with_reducible refine rd_par33 ?_
  | with_reducible refine rd_gcons ?_
  | with_reducible refine rd_gnil ?_
  | with_reducible refine rd_sub ?_
  | with_reducible refine rd_tup ?_
  | with_reducible refine rd_lst ?_
  | ((with_reducible refine rd_tupT ?hl ?_); (case hl => exact Nat.le_of_ble_eq_true rfl))
  | ((with_reducible refine rd_lstT ?hl ?_); (case hl => exact Nat.le_of_ble_eq_true rfl))
  | with_reducible refine rd_bm ?_
  | with_reducible refine rd_bm0 ?_
  | with_reducible refine rd_sl ?_
  | with_reducible refine rd_noP ?_
  | with_reducible refine rd_part ?_
  | with_reducible refine rd_int ?_
  | with_reducible refine rd_int1 ?_
  | with_reducible refine rd_fld ?_
  | with_reducible refine rd_then ?_
  | with_reducible refine rd_raise ?_
  | with_reducible refine rd_one ?_
  | with_reducible refine rd_sfld ?_
  | with_reducible refine rd_ilist ?_
  | with_reducible refine rd_itup ?_
  | with_reducible refine rd_rng1 ?_
  | with_reducible refine rd_enum ?_
  | with_reducible refine rd_enumT ?_)
local macro_rules | `(tactic| walk_at "rd") => `(tactic| repeat (walk_at "rd1"))
/-- the list of links under way -/
def LkInv (p q l : Addr) (H H' : Hp) (L : List (Int × Int)) : Prop := Deal H' p q ∧ Fix p q H H' ∧ ∃ ps : List Addr, H' l = some (.lst (ps.map V.ref)) ∧ Paired (PairAt H') ps L
theorem pairs_same {H H' : Hp} {ps : List Addr} {L : List (Int × Int)} (h : Paired (PairAt H) ps L) (s : Same H H') : Paired (PairAt H') ps L := paired_mono h fun _ _ z => s _ _ z
theorem pairs_upd {H : Hp} {l : Addr} {xs ys : List V} {ps : List Addr} {L : List (Int × Int)} (h : Paired (PairAt H) ps L) (hl : H l = some (.lst xs)) : Paired (PairAt (upd H l (.lst ys))) ps L :=
  paired_mono h fun a b z => by
    have z : H a = some _ := z
    show upd H l _ a = some _
    rw [upd_ne (fun e => by rw [e, hl] at z; cases z)]
    exact z
theorem pairs_snoc {H : Hp} {t : Addr} {e : Int × Int} : ∀ {ps : List Addr} {L : List (Int × Int)}, Paired (PairAt H) ps L → PairAt H t e → Paired (PairAt H) (ps ++ [t]) (L ++ [e]) := fun h a => by
  induction h with
  | nil => exact .cons a .nil
  | cons x _ ih => exact .cons x ih
theorem LkInv.same {p q l : Addr} {H H1 H2 : Hp} {L : List (Int × Int)} (h : LkInv p q l H H1 L) (s : Same H1 H2) : LkInv p q l H H2 L := by
  obtain ⟨d, f, ps, h1, h2⟩ := h
  exact ⟨d.same s, f.trans (Fix.same s), ps, s _ _ h1, pairs_same h2 s⟩
theorem LkInv.fix {p q l : Addr} {H H1 H2 : Hp} {L : List (Int × Int)} (h : LkInv p q l H H1 L) (lp : l ≠ p) (lq : l ≠ q) (d : Deal H2 p q) (s : Fix p q H1 H2) : LkInv p q l H H2 L := by
  obtain ⟨d1, f, ps, h1, h2⟩ := h
  exact ⟨d, f.trans s, ps, s _ _ lp lq h1, paired_mono h2 fun a b z => Fix.keep s d1 z (fun _ e => by cases e)⟩
theorem LkInv.app {p q l t : Addr} {H H1 : Hp} {L : List (Int × Int)} {e : Int × Int} (h : LkInv p q l H H1 L) (lp : l ≠ p) (lq : l ≠ q) (l0 : H l = none) (ht : PairAt H1 t e) :
    ∃ xs, H1 l = some (.lst xs) ∧ xs.length = L.length ∧ LkInv p q l H (upd H1 l (.lst (xs ++ [.ref t]))) (L ++ [e]) := by
  obtain ⟨d, f, ps, h1, h2⟩ := h
  refine ⟨_, h1, by rw [List.length_map, paired_len h2], d.off lp lq, f.upd l0, ps ++ [t], by rw [upd_same]; simp, ?_⟩
  exact pairs_upd (pairs_snoc h2 ht) h1
theorem rd_notInP {K : PySem.W.Frag} {H : Hp} {t l : Addr} {e : Int × Int} {ps : List Addr} {L : List (Int × Int)} {Q : VK} (ht : PairAt H t e) (hl : H l = some (.lst (ps.map V.ref))) (hp : Paired (PairAt H) ps L)
    (h : Q (.bl (!decide (e ∈ L))) H) : rNotInD K (.ref t) (.ref l) H Q :=
  ⟨dP e, L.map dP, dp_pair ht, .lst (SqL.of hl) (dp_pairs hp), dP_sh1 e, dP_shL L, by rw [dP_any]; exact h⟩
theorem stepC_len (n one : Int) (L : List (Int × Int)) (s : Int) : (stepC n one L s).length ≤ L.length + 1 := by
  unfold stepC
  split
  · omega
  · split
    · omega
    · simp
theorem fold_snoc {α β : Type} (f : α → β → α) (a : α) (l : List β) (i : Nat) (x : β) (h : l[i]? = some x) : (l.take (i + 1)).foldl f a = f ((l.take i).foldl f a) x := by
  rw [List.take_succ, h]
  simp [List.foldl_append]
theorem circ_succ (n : Int) (steps : List Int) (i : Nat) : circ n steps (i + 1) = steps.foldl (stepC n (i : Nat)) (circ n steps i) := by
  unfold circ
  rw [List.range_succ, List.foldl_append]
  rfl
theorem circ_nil (n : Int) : ∀ i, circ n [] i = []
  | 0 => rfl
  | i + 1 => by rw [circ_succ, circ_nil n i]; rfl
theorem fold_len (n one : Int) : ∀ (steps : List Int) (L : List (Int × Int)), (steps.foldl (stepC n one) L).length ≤ L.length + steps.length
  | [], L => Nat.le_refl _
  | s :: ss, L => by
    have h1 := fold_len n one ss (stepC n one L s)
    have h2 := stepC_len n one L s
    simp only [List.foldl_cons, List.length_cons]
    omega
theorem circ_len (n : Int) (steps : List Int) (hs : steps.length ≤ 2) : ∀ i, (circ n steps i).length ≤ 2 * i
  | 0 => Nat.le_refl _
  | i + 1 => by
    rw [circ_succ]
    have h1 := circ_len n steps hs i
    have h2 := fold_len n (i : Nat) steps (circ n steps i)
    omega
theorem steps_len (f n : Int) : (stepsOf f n).length ≤ 2 := by
  unfold stepsOf
  split
  · decide
  · split
    · decide
    · split
      · decide
      · split
        · simp
        · decide
theorem inc_in (s : Int) (e : Int × Int) : decide (s ∈ [e.1, e.2]) = inc s e := by
  unfold inc
  by_cases h1 : e.1 = s
  · simp [h1]
  · by_cases h2 : e.2 = s
    · simp [h2]
    · have h1' : ¬ s = e.1 := fun z => h1 z.symm
      have h2' : ¬ s = e.2 := fun z => h2 z.symm
      simp [h1, h2, h1', h2']
/-- links drawn one by one: the greater site first, then the lesser one -/
structure Bf (o i : Nat) (L : List (Int × Int)) : Prop where
  rng : ∀ e ∈ L, 0 ≤ e.1 ∧ e.1 < e.2 ∧ (e.2 < o ∨ e.2 = o ∧ e.1 < i)
  nd : L.Nodup
  deg : ∀ s : Int, (L.filter (inc s)).length ≤ 4
  len : L.length ≤ 10 * o + i
theorem Bf.skip {o i : Nat} {L : List (Int × Int)} (h : Bf o i L) : Bf o (i + 1) L :=
  ⟨fun e he => by have := h.rng e he; omega, h.nd, h.deg, by have := h.len; omega⟩
theorem Bf.next {o : Nat} {L : List (Int × Int)} (h : Bf o o L) (ho : o < 10) : Bf (o + 1) 0 L :=
  ⟨fun e he => by have := h.rng e he; omega, h.nd, h.deg, by have := h.len; omega⟩
theorem Bf.app {o i : Nat} {L : List (Int × Int)} (h : Bf o i L) (hi : i < o) (d1 : (L.filter (inc (i : Nat))).length < 4) (d2 : (L.filter (inc (o : Nat))).length < 4) : Bf o (i + 1) (L ++ [(((i : Nat) : Int), ((o : Nat) : Int))]) := by
  refine ⟨fun e he => ?_, ?_, fun s => ?_, by have := h.len; simp; omega⟩
  · rcases List.mem_append.mp he with z | z
    · have := h.rng e z; omega
    · rw [List.mem_singleton.mp z]
      show (0 : Int) ≤ (i : Nat) ∧ ((i : Nat) : Int) < (o : Nat) ∧ _
      omega
  · refine List.nodup_append.mpr ⟨h.nd, by simp, fun a ha b hb => ?_⟩
    rw [List.mem_singleton.mp hb]
    intro z
    have := h.rng a ha
    rw [z] at this
    simp at this
  · rw [List.filter_append, List.length_append]
    have h1 := h.deg s
    by_cases c1 : ((i : Nat) : Int) = s
    · rw [← c1]
      have : ([(((i : Nat) : Int), ((o : Nat) : Int))].filter (inc ((i : Nat) : Int))).length ≤ 1 := List.length_filter_le _ _
      omega
    · by_cases c2 : ((o : Nat) : Int) = s
      · rw [← c2]
        have : ([(((i : Nat) : Int), ((o : Nat) : Int))].filter (inc ((o : Nat) : Int))).length ≤ 1 := List.length_filter_le _ _
        omega
      · have : [(((i : Nat) : Int), ((o : Nat) : Int))].filter (inc s) = [] := by
          simp [inc, c1, c2]
        rw [this]; simpa using h1
theorem Bf.good {n : Nat} {L : List (Int × Int)} (h : Bf n 0 L) : Good n 4 L :=
  ⟨fun e he => by have := h.rng e he; omega, h.nd, h.deg⟩
theorem Good.perm {n d : Nat} {L M : List (Int × Int)} (h : Good n d L) (p : M.Perm L) : Good n d M :=
  ⟨fun e he => h.rng e (p.mem_iff.mp he), p.nodup_iff.mpr h.nd, fun s => by rw [perm_filter_len p (inc s)]; exact h.deg s⟩
def spLk : Sp := fun vs H Q _ => ∃ (p q : Addr) (n : Nat), vs = [.ref p, .int (n : Nat)] ∧ Deal H p q ∧ 1 ≤ n ∧ n < 10 ∧
  ∀ (H' : Hp) (l : Addr) (ps : List Addr) (L : List (Int × Int)), Deal H' p q → Fix p q H H' → H l = none → l ≠ p → l ≠ q → H' l = some (.lst (ps.map V.ref)) → Paired (PairAt H') ps L → Good n 4 L → L.Pairwise lexlt → Q (.ref l) H'
section
variable {P : Program} {w : World} {K : PySem.W.Frag} {mg : Str → Option Value} {base : Heap} (T : TX K mg)
theorem G__law_links : FnOk P w K mg base CX0 2 T.f__law_links T.d__law_links ["deal", "many"] spLk := by
  refine T.F__law_links.ok sc__law_links (fun vs H Q E h => ?_) fun cdv A outer s H vs Q E hr h => ⟨_, (pss_cons (ps_asg (pe_tup (pa_cons (pe_call (G__law_any T) (hr.mono (by decide)) (by rfl) T.m__law_any T.F__law_any.kp T.b__law_any .nil pass0 (by exact (pa_cons (pv 0) (pa_cons pe_int pa_nil)))) (pa_cons (pe_lst pa_nil) (pa_cons (pe_op op_add pe_int (pe_call (G__law_any T) (hr.mono (by decide)) (by rfl) T.m__law_any T.F__law_any.kp T.b__law_any .nil pass0 (by exact (pa_cons (pv 0) (pa_cons pe_int pa_nil))))) pa_nil)))) (pg_tupK (K := K) (n := 3) (by rfl) (pgs_cons (pg_name (i := 2) sc__law_links.nd rfl (.inl rfl)) (pgs_cons (pg_name (i := 3) sc__law_links.nd rfl (.inr rfl)) (pgs_cons (pg_name (i := 4) sc__law_links.nd rfl (.inl rfl)) pgs_nil))))) (pss_cons (ps_set (i := 5) sc__law_links.nd rfl (.inl rfl) (pe_ix (ix_listK (K := K)) (pe_lst (pa_cons (pe_lst (pa_cons pe_int pa_nil)) (pa_cons (pe_lst (pa_cons pe_int pa_nil)) (pa_cons (pe_lst (pa_cons pe_int (pa_cons pe_int pa_nil))) (pa_cons (pe_lst (pa_cons pe_int (pa_cons (pe_op op_fdiv (pv 1) pe_int) pa_nil))) (pa_cons (pe_lst pa_nil) (pa_cons (pe_lst pa_nil) pa_nil))))))) (pv 2) (fun _ _ => rfl))) (pss_cons (ps_for PassesOwn.never rfl (pi_range1 (by rfl) T.n_range (by exact (pa_cons (pv 1) pa_nil))) (pg_name (i := 6) sc__law_links.nd rfl (.inl rfl)) (pss_one (ps_for PassesOwn.never rfl (pi_listK (K := K) (pv 5)) (pg_name (i := 7) sc__law_links.nd rfl (.inl rfl)) (pss_cons (ps_set (i := 8) sc__law_links.nd rfl (.inl rfl) (pe_op op_mod (pe_callTy call_int1 (by rfl) T.n_int (by decide +kernel) (by exact (pa_cons (pe_op op_add (pv 6) (pv 7)) pa_nil))) (pv 1))) (pss_one (ps_if (PW.pt (pw_and (pt_cmpR op_ne (pv 6) (pv 8) (nomark _)) (pw_and1 (pt_cmpR (op_notInDK (K := K) (KX.Room.u65 hr)) (pe_tup (pa_cons (pe_callB (call_min2 rfl) (by rfl) T.n_min (by decide +kernel) (by exact (pa_cons (pv 6) (pa_cons (pv 8) pa_nil)))) (pa_cons (pe_callB (call_max2 rfl) (by rfl) T.n_max (by decide +kernel) (by exact (pa_cons (pv 6) (pa_cons (pv 8) pa_nil)))) pa_nil))) (pv 3) (by rfl))))) (pss_one (ps_expr (pe_bmK (K := K) PySem.F.slot_list_append PySem.F.type_list_append mt_append (pv 3) (by exact (pa_cons (pe_tup (pa_cons (pe_callB (call_min2 rfl) (by rfl) T.n_min (by decide +kernel) (by exact (pa_cons (pv 6) (pa_cons (pv 8) pa_nil)))) (pa_cons (pe_callB (call_max2 rfl) (by rfl) T.n_max (by decide +kernel) (by exact (pa_cons (pv 6) (pa_cons (pv 8) pa_nil)))) pa_nil))) pa_nil))))) pss_nil)))))) (pss_cons (ps_if (pt_cmpR op_gt (pv 2) pe_int (nomark _)) (pss_one (ps_for PassesOwn.never rfl (pi_range1 (by rfl) T.n_range (by exact (pa_cons (pv 1) pa_nil))) (pg_name (i := 8) sc__law_links.nd rfl (.inl rfl)) (pss_one (ps_for PassesOwn.never rfl (pi_range1 (by rfl) T.n_range (by exact (pa_cons (pv 8) pa_nil))) (pg_name (i := 6) sc__law_links.nd rfl (.inl rfl)) (pss_cons (ps_setLc (i := 9) (own := [("site", 10)]) (by rfl) sc__law_links.nd rfl rfl (sw_true rfl rfl rfl (by decide +kernel)) (pi_tupK (K := K) (pe_tup (pa_cons (pv 6) (pa_cons (pv 8) pa_nil)))) (blkOk_by (own := [("site", 10)]) (N := N__law_links) (sc := defScope s__law_links) (by decide +kernel)) (fun _ _ _ _ _ => (pg_name (i := 10) sc__law_links.nd rfl (.inr rfl))) (fun _ _ _ _ _ => pts_nil) (fun _ _ _ _ _ => (pe_callB (cr_lenK (K := K)) (by rfl) T.n_len (by decide +kernel) (by exact (pa_cons (by exact (pe_lc (own := [("link", 11)]) (by rfl) sc__law_links.nd (pi_listK (K := K) (pv 3)) (blkOk_by (own := [("link", 11)]) (N := N__law_links) (sc := ({ kind := PySem.ScopeKind.function, names := [(PySem.Str.ofString ".0", PySem.NameKind.local), (PySem.Str.ofString "site", PySem.NameKind.cell), (PySem.Str.ofString "len", PySem.NameKind.globalImplicit), (PySem.Str.ofString "links", PySem.NameKind.cell)], isGenerator := false, isCoroutine := false, more := [] } : PySem.Scope)) (by decide +kernel)) (fun _ _ _ _ _ => (pg_name (i := 11) sc__law_links.nd rfl (.inl rfl))) (fun _ _ _ _ _ => pts_one (pt_cmpR (op_inK (K := K)) (pv 10) (pv 11) (by rfl))) (fun _ _ _ _ _ => (pv 11)) )) pa_nil)))) ) (pss_one (ps_if (PW.pt (pw_and (pt_cmpR op_lt (pe_callB (cr_maxK (K := K) rfl) (by rfl) T.n_max (by decide +kernel) (by exact (pa_cons (pv 9) pa_nil))) (pv 4) (nomark _)) (pw_and1 (pt_cmpR op_gt (pe_call (G__law_any T) (hr.mono (by decide)) (by rfl) T.m__law_any T.F__law_any.kp T.b__law_any .nil pass0 (by exact (pa_cons (pv 0) (pa_cons pe_int pa_nil)))) pe_int (nomark _))))) (pss_one (ps_expr (pe_bmK (K := K) PySem.F.slot_list_append PySem.F.type_list_append mt_append (pv 3) (by exact (pa_cons (pe_tup (pa_cons (pv 6) (pa_cons (pv 8) pa_nil))) pa_nil))))) pss_nil))))))) pss_nil) (pss_one (ps_ret (pe_callB (cr_sortedPOK (K := K)) (by rfl) T.n_sorted (by decide +kernel) (by exact (pa_cons (pv 3) pa_nil))))))))), ?_⟩
  · obtain ⟨p, q, n, rfl, _⟩ := h
    rfl
  · obtain ⟨p, q, n, rfl, d, n1, n10, hQ⟩ := h
    walk_at "rd"
    refine ⟨p, q, 6, rfl, d, by decide, by decide, fun H1 f d1 f1 f0 f6 => ?_⟩
    walk_at "rd"
    intro l H2 l0 S2 hl
    have d2 := d1.same S2
    obtain ⟨lp, lq⟩ := d1.nes l0
    have l00 := f1.free d1 l0
    walk_at "rd"
    refine ⟨p, q, 4, rfl, d2, by decide, by decide, fun H3 m d3 f3 m0 m4 => ?_⟩
    have hl3 := f3 _ _ lp lq hl
    have F3 : Fix p q H H3 := f1.trans ((Fix.same S2).trans f3)
    walk_at "rd"
    intro t H4 t0 S4 ht
    refine rd_gtup (Tup.of ht) rfl ?_
    walk_at "rd"
    intro a0 H5 n5 S5 e0
    walk_at "rd"
    intro a1 H6 n6 S6 e1
    walk_at "rd"
    intro a2 H7 n7 S7 e2
    walk_at "rd"
    refine rd_rI ⟨by decide, by decide⟩ ?_
    walk_at "rd"
    intro a3 H8 n8 S8 e3
    walk_at "rd"
    intro a4 H9 n9 S9 e4
    walk_at "rd"
    intro a5 H10 n10' S10 e5
    walk_at "rd"
    intro a6 H11 n11 S11 e6
    have S411 := ((((((S4.trans S5).trans S6).trans S7).trans S8).trans S9).trans S10).trans S11
    have hl11 := S411 _ _ hl3
    obtain ⟨as, hst, has, asl⟩ : ∃ as, atI [V.ref a0, V.ref a1, V.ref a2, V.ref a3, V.ref a4, V.ref a5] f = some (.ref as) ∧ H11 as = some (.lst ((stepsOf f n).map V.int)) ∧ as ≠ l := by
      have hf : f = 0 ∨ f = 1 ∨ f = 2 ∨ f = 3 ∨ f = 4 ∨ f = 5 := by omega
      have h4 := S4 _ _ hl3
      have h5 := S5 _ _ h4
      have h6 := S6 _ _ h5
      have h7 := S7 _ _ h6
      have h8 := S8 _ _ h7
      have h9 := S9 _ _ h8
      rcases hf with rfl | rfl | rfl | rfl | rfl | rfl
      · exact ⟨a0, rfl, (((((S6.trans S7).trans S8).trans S9).trans S10).trans S11) _ _ e0, fun z => by rw [z, h4] at n5; cases n5⟩
      · exact ⟨a1, rfl, ((((S7.trans S8).trans S9).trans S10).trans S11) _ _ e1, fun z => by rw [z, h5] at n6; cases n6⟩
      · exact ⟨a2, rfl, (((S8.trans S9).trans S10).trans S11) _ _ e2, fun z => by rw [z, h6] at n7; cases n7⟩
      · exact ⟨a3, rfl, ((S9.trans S10).trans S11) _ _ e3, fun z => by rw [z, h7] at n8; cases n8⟩
      · exact ⟨a4, rfl, (S10.trans S11) _ _ e4, fun z => by rw [z, h8] at n9; cases n9⟩
      · exact ⟨a5, rfl, S11 _ _ e5, fun z => by rw [z, h9] at n10'; cases n10'⟩
    walk_at "rd"
    refine rd_ixL e6 hst ?_
    walk_at "rd"
    have I0 : LkInv p q l H H11 [] := ⟨d3.same S411, F3.trans (Fix.same S411), [], hl11, .nil⟩
    generalize hsp : stepsOf f n = sp at has
    have spl : sp.length ≤ 2 := by rw [← hsp]; exact steps_len f n
    refine ⟨by omega, by omega, ?_⟩
    refine for_range (lo := 0) (n := n) (fun i σ H' => (∃ o6 o7 o8 o9 o10 o11, σ = [some (.ref p), some (.int (n : Nat)), some (.int f), some (.ref l), some (.int (1 + m)), some (.ref as), o6, o7, o8, o9, o10, o11]) ∧
      LkInv p q l H H' (circ n sp i) ∧ H' as = some (.lst (sp.map V.int))) ⟨⟨_, _, _, _, _, _, rfl⟩, I0, has⟩ (fun i σ H' hi pv => ?_) (fun σ H' pv => ?_)
    · obtain ⟨⟨o6, o7, o8, o9, o10, o11, rfl⟩, I, ha⟩ := pv
      walk_at "rd"
      refine ⟨as, rfl, ⟨_, SqL.of ha⟩, ?_⟩
      refine for_list (xs := sp.map V.int) (fun j σ H' => (∃ o7 o8 o9 o10 o11, σ = [some (.ref p), some (.int (n : Nat)), some (.int f), some (.ref l), some (.int (1 + m)), some (.ref as), some (.int (0 + (i : Nat))), o7, o8, o9, o10, o11]) ∧
        LkInv p q l H H' ((sp.take j).foldl (stepC n (i : Nat)) (circ n sp i)) ∧ H' as = some (.lst (sp.map V.int))) ⟨⟨_, _, _, _, _, rfl⟩, I, ha⟩ (fun j σ H' _ pv => SqL.of pv.2.2) (fun j x σ H' hx pv => ?_) (fun σ H' pv => ?_)
      · obtain ⟨⟨o7, o8, o9, o10, o11, rfl⟩, I, ha⟩ := pv
        rw [List.getElem?_map] at hx
        obtain ⟨st, hs, rfl⟩ := Option.map_eq_some_iff.mp hx
        rw [fold_snoc _ _ _ _ _ hs]
        have lL : ((sp.take j).foldl (stepC n (i : Nat)) (circ n sp i)).length ≤ 100 := by
          have h1 := fold_len n (i : Nat) (sp.take j) (circ n sp i)
          have h2 := circ_len n sp spl i
          have h3 : (sp.take j).length ≤ sp.length := by rw [List.length_take]; omega
          omega
        generalize (sp.take j).foldl (stepC n (i : Nat)) (circ n sp i) = L at I lL
        walk_at "rd"
        refine .inl ⟨_, rfl, ?_⟩
        walk_at "rd"
        refine rd_rI (by omega) ?_
        have z0 : (0 : Int) + (i : Nat) = (i : Nat) := by omega
        have zg : ((0 : Int) + (i : Nat) + st) % (n : Nat) = ((i : Nat) + st) % (n : Nat) := by rw [z0]
        rw [zg, z0]
        have zs : stepC (n : Nat) (i : Nat) L st = if ((i : Nat) : Int) = ((i : Nat) + st) % (n : Nat) then L else if pairOf (i : Nat) (((i : Nat) + st) % (n : Nat)) ∈ L then L else L ++ [pairOf (i : Nat) (((i : Nat) + st) % (n : Nat))] := rfl
        rw [zs]
        generalize (((i : Nat) : Int) + st) % (n : Nat) = ot
        walk_at "rd"
        by_cases h1 : ((i : Nat) : Int) = ot
        · rw [if_pos h1]
          refine iteF' (by simp [h1]) ?_
          walk_at "rd"
          exact ⟨⟨_, _, _, _, _, rfl⟩, I, ha⟩
        · rw [if_neg h1]
          refine iteT' (by simp [h1]) ?_
          walk_at "rd"
          refine ⟨_, _, rfl, ?_⟩
          walk_at "rd"
          refine ⟨_, _, rfl, ?_⟩
          walk_at "rd"
          intro u H12 u0 S12 hu
          have hu : PairAt H12 u (pairOf (i : Nat) ot) := hu
          have I12 := I.same S12
          have ha12 := S12 _ _ ha
          obtain ⟨_, _, ps, hps, hpp⟩ := I12
          walk_at "rd"
          refine rd_notInP hu hps hpp ?_
          walk_at "rd"
          by_cases h2 : pairOf (i : Nat) ot ∈ L
          · rw [if_pos h2]
            refine iteF' (by simp [h2]) ?_
            walk_at "rd"
            exact ⟨⟨_, _, _, _, _, rfl⟩, I.same S12, ha12⟩
          · rw [if_neg h2]
            refine iteT' (by simp [h2]) ?_
            walk_at "rd"
            refine rd_ty hps ?_
            walk_at "rd"
            refine ⟨_, _, rfl, ?_⟩
            walk_at "rd"
            refine ⟨_, _, rfl, ?_⟩
            walk_at "rd"
            intro v H13 v0 S13 hv
            have hv : PairAt H13 v (pairOf (i : Nat) ot) := hv
            obtain ⟨xs, hxs, lxs, I13⟩ := ((I.same S12).same S13).app lp lq l00 hv
            walk_at "rd"
            refine rd_app hxs (by omega) ?_
            walk_at "rd"
            refine ⟨⟨_, _, _, _, _, rfl⟩, I13, ?_⟩
            rw [upd_ne asl]
            exact S13 _ _ ha12
      · obtain ⟨⟨o7, o8, o9, o10, o11, rfl⟩, I, ha⟩ := pv
        rw [List.length_map, List.take_length, ← circ_succ] at I
        walk_at "rd"
        exact ⟨⟨_, _, _, _, _, _, rfl⟩, I, ha⟩
    · obtain ⟨⟨o6, o7, o8, o9, o10, o11, rfl⟩, I, ha⟩ := pv
      have fin : ∀ (H' : Hp) (L : List (Int × Int)) (σ : L2.St), σ[3]? = some (some (V.ref l)) → LkInv p q l H H' L → Good n 4 L → tRet (tCB (rSortedPO K) (tCons (tVar 3) tNil)) { nx := fun x H' => Q V.non H', rt := Q } σ H' := fun H' L σ hσ I g => by
        obtain ⟨d', f', ps, hps, hpp⟩ := I
        refine rd_ret (rd_cb (rd_cons (rd_var hσ (rd_nil ?_))))
        refine rd_sortedP hps hpp g.nd fun qs L' pm srt pr => ?_
        intro a H'' a0 S e
        exact hQ H'' a qs L' (d'.same S) (f'.trans (Fix.same S)) (f'.free d' a0) (d'.nes a0).1 (d'.nes a0).2 e (pairs_same pr S) (g.perm pm) srt
      walk_at "rd"
      by_cases h3 : 3 < f
      · refine iteT' (decide_eq_true h3) ?_
        have spn : sp = [] := by
          rw [← hsp]
          have : f = 4 ∨ f = 5 := by omega
          rcases this with rfl | rfl <;> rfl
        rw [spn, circ_nil] at I
        walk_at "rd"
        refine ⟨by omega, by omega, ?_⟩
        refine for_range (lo := 0) (n := n) (fun o σ H' => (∃ o5 o6 o7 o8 o9 o10 o11, σ = [some (.ref p), some (.int (n : Nat)), some (.int f), some (.ref l), some (.int (1 + m)), o5, o6, o7, o8, o9, o10, o11]) ∧
          ∃ L, LkInv p q l H H' L ∧ Bf o 0 L) ⟨⟨_, _, _, _, _, _, _, rfl⟩, [], I, ⟨by simp, List.nodup_nil, by simp, by simp⟩⟩ (fun o σ H' ho pv => ?_) (fun σ H' pv => ?_)
        · obtain ⟨⟨o5, o6, o7, o8, o9, o10, o11, rfl⟩, L, I, B⟩ := pv
          walk_at "rd"
          refine ⟨by omega, by omega, ?_⟩
          have e0 : ((0 : Int) + (o : Nat)).toNat = o := by omega
          rw [e0]
          refine for_range (lo := 0) (n := o) (fun i σ H' => (∃ o5 o6 o7 o9 o10 o11, σ = [some (.ref p), some (.int (n : Nat)), some (.int f), some (.ref l), some (.int (1 + m)), o5, o6, o7, some (.int (0 + (o : Nat))), o9, o10, o11]) ∧
            ∃ L, LkInv p q l H H' L ∧ Bf o i L) ⟨⟨_, _, _, _, _, _, rfl⟩, L, I, B⟩ (fun i σ H' hi pv => ?_) (fun σ H' pv => ?_)
          · obtain ⟨⟨o5, o6, o7, o9, o10, o11, rfl⟩, L, I, B⟩ := pv
            walk_at "rd"
            intro u H12 u0 S12 hu
            have I12 := I.same S12
            refine ⟨u, rfl, ⟨_, SqT.of hu⟩, fun D hD => ?_⟩
            have lL : L.length ≤ 100 := by have := B.len; omega
            have hD' : H' D = none := S12.free hD
            refine lc_tup (xs := [V.int (0 + (i : Nat)), V.int (0 + (o : Nat))]) (fun j H' => Same H12 H' ∧ H' D = some (.lst (([((i : Nat) : Int), ((o : Nat) : Int)].take j).map fun s => V.int ((L.filter (inc s)).length : Nat))))
              ⟨Same.fresh hD, upd_same⟩ (fun j H' _ pv => SqT.of (pv.1 _ _ hu)) (fun j x H13 hx pv => ?_) (fun H13 pv => ?_)
            · obtain ⟨S13, hD13⟩ := pv
              obtain ⟨s, hs, rfl⟩ : ∃ s : Int, [((i : Nat) : Int), ((o : Nat) : Int)][j]? = some s ∧ x = V.int s := by
                match j, hx with
                | 0, hx => simp at hx; exact ⟨_, rfl, by rw [← hx]⟩
                | 1, hx => simp at hx; exact ⟨_, rfl, by rw [← hx]⟩
                | j + 2, hx => simp at hx
              have I13 := I12.same S13
              obtain ⟨_, _, ps, hps, hpp⟩ := I13
              walk_at "rd"
              refine ⟨rfl, ?_⟩
              walk_at "rd"
              refine ⟨l, rfl, ⟨_, SqL.of hps⟩, fun D2 hD2 => ?_⟩
              refine lc_list (xs := ps.map V.ref) (fun k H' => Same H13 H' ∧ ∃ vs, H' D2 = some (.lst vs) ∧ vs.length = ((L.take k).filter (inc s)).length)
                ⟨Same.fresh hD2, [], upd_same, rfl⟩ (fun k H' _ pv => SqL.of (pv.1 _ _ hps)) (fun k x H14 hx pv => ?_) (fun H14 pv => ?_)
              · obtain ⟨S14, vs, hvs, lv⟩ := pv
                rw [List.getElem?_map] at hx
                obtain ⟨t, ht, rfl⟩ := Option.map_eq_some_iff.mp hx
                obtain ⟨e, he, hte⟩ := paired_get hpp ht
                have hte14 : PairAt H14 t e := S14 _ _ hte
                have hfl : ((L.take (k + 1)).filter (inc s)).length = ((L.take k).filter (inc s)).length + if inc s e = true then 1 else 0 := by
                  rw [List.take_succ, he, List.filter_append, List.length_append]
                  congr 1
                  by_cases z : inc s e = true
                  · simp [z]
                  · simp [z]
                walk_at "rd"
                refine ⟨rfl, ?_⟩
                walk_at "rd"
                refine rd_inI (row := [e.1, e.2]) (.inr (SqT.of hte14)) ?_
                walk_at "rd"
                rw [inc_in]
                by_cases z : inc s e = true
                · refine iteT' z ?_
                  rw [if_pos z] at hfl
                  walk_at "rd"
                  refine ⟨vs, hvs, ?_, Same.put S14 hD2, vs ++ [V.ref t], upd_same, by rw [hfl, List.length_append, lv]; rfl⟩
                  have h1 : ((L.take k).filter (inc s)).length ≤ L.length := by
                    have a := List.length_filter_le (inc s) (L.take k)
                    have b : (L.take k).length ≤ L.length := by rw [List.length_take]; omega
                    omega
                  exact Nat.lt_of_le_of_lt (by omega : vs.length ≤ 100) (by decide)
                · refine iteF' (by simpa using z) ?_
                  rw [if_neg z] at hfl
                  exact ⟨S14, vs, hvs, by rw [hfl, lv]; rfl⟩
              · obtain ⟨S14, vs, hvs, lv⟩ := pv
                rw [List.length_map, paired_len hpp, List.take_length] at lv
                walk_at "rd"
                refine rd_len hvs ?_
                refine ⟨_, S14 _ _ hD13, ?_, Same.put (S13.trans S14) hD, ?_⟩
                · rw [List.length_map, List.length_take]
                  exact Nat.lt_of_le_of_lt (Nat.min_le_right _ _) (by show 2 < sizeLine; decide)
                · rw [upd_same, lv]
                  congr 2
                  have : ([((i : Nat) : Int), ((o : Nat) : Int)].take (j + 1)) = ([((i : Nat) : Int), ((o : Nat) : Int)].take j) ++ [s] := by rw [List.take_succ, hs]; rfl
                  rw [this, List.map_append]
                  rfl
            · obtain ⟨S13, hD13⟩ := pv
              have I13 := I12.same S13
              obtain ⟨Dl13, Fx13, _, hl13, _⟩ := id I13
              walk_at "rd"
              refine rd_max (ns := [((L.filter (inc ((i : Nat) : Int))).length : Int), ((L.filter (inc ((o : Nat) : Int))).length : Int)]) hD13 (Nat.zero_lt_succ _) fun mx mm my => ?_
              have y1 := my _ List.mem_cons_self
              have y2 := my _ (List.mem_cons_of_mem _ List.mem_cons_self)
              walk_at "rd"
              by_cases c1 : mx < 1 + m
              · refine iteT' (decide_eq_true c1) ?_
                walk_at "rd"
                refine ⟨p, q, 3, rfl, Dl13, by decide, by decide, fun H14 w' d14 f14 w0 w3 => ?_⟩
                have I14 := I13.fix lp lq d14 f14
                obtain ⟨_, _, _, hl14, _⟩ := id I14
                walk_at "rd"
                by_cases c2 : 0 < w'
                · refine iteT' (decide_eq_true c2) ?_
                  walk_at "rd"
                  refine rd_ty hl14 ?_
                  walk_at "rd"
                  intro v H15 v0 S15 hv
                  have z1 : (0 : Int) + (i : Nat) = (i : Nat) := by omega
                  have z2 : (0 : Int) + (o : Nat) = (o : Nat) := by omega
                  rw [z1, z2] at hv
                  have hv : PairAt H15 v (((i : Nat) : Int), ((o : Nat) : Int)) := hv
                  obtain ⟨xs, hxs, lxs, I15⟩ := (I14.same S15).app lp lq l00 hv
                  walk_at "rd"
                  refine rd_app hxs (by omega) ?_
                  walk_at "rd"
                  exact ⟨⟨_, _, _, _, _, _, rfl⟩, _, I15, B.app hi (by omega) (by omega)⟩
                · refine iteF' (decide_eq_false c2) ?_
                  walk_at "rd"
                  exact ⟨⟨_, _, _, _, _, _, rfl⟩, L, I14, B.skip⟩
              · refine iteF' (decide_eq_false c1) ?_
                walk_at "rd"
                exact ⟨⟨_, _, _, _, _, _, rfl⟩, L, I13, B.skip⟩
          · obtain ⟨⟨o5, o6, o7, o9, o10, o11, rfl⟩, L, I, B⟩ := pv
            exact ⟨⟨_, _, _, _, _, _, _, rfl⟩, L, I, B.next (by omega)⟩
        · obtain ⟨⟨o5, o6, o7, o8, o9, o10, o11, rfl⟩, L, I, B⟩ := pv
          exact fin _ L _ rfl I B.good
      · refine iteF' (decide_eq_false h3) ?_
        walk_at "rd1"
        walk_at "rd1"
        refine fin _ _ _ rfl I ?_
        rw [← hsp]
        have := goodB_ok (circ_good n n1 n10 f.toNat (by omega))
        have e : ((f.toNat : Nat) : Int) = f := by omega
        rwa [e] at this
end
end K04

namespace K04
open PySem PySem.Spec PyProof.Rows L2 KX
local macro_rules | `(tactic| walk_at "rd1") => `(tactic| first
  | with_reducible refine rd_seq ?_
  | with_reducible refine rd_for ?_
  | with_reducible refine rd_lc ?_
  | with_reducible refine rd_asg ?_
  | ((with_reducible refine' rd_var ?rdv ?_); (case rdv => exact rfl))
  | with_reducible refine rd_c ?_
  | with_reducible refine rd_op ?_
  | with_reducible refine rd_un ?_
  | with_reducible refine rd_cons ?_
  | with_reducible refine rd_nil ?_
  | with_reducible refine rd_call ?_
  | with_reducible refine rd_cb ?_
  | with_reducible refine rd_tB ?_
  | with_reducible refine rd_test ?_
  | with_reducible refine rd_bl ?_
  | with_reducible refine rd_rI0 ?_
  | with_reducible refine rd_eqI ?_
  | with_reducible refine rd_neI ?_
  | with_reducible refine rd_rU ?_
  | with_reducible refine rd_name ?_
  | with_reducible refine rd_ifs ?_
  | with_reducible refine rd_and ?_
  | with_reducible refine rd_or ?_
  | with_reducible refine rd_not ?_
  | with_reducible refine rd_yes ?_
  | with_reducible refine rd_andV ?_
  | with_reducible refine rd_orV ?_
  | with_reducible refine rd_notV ?_
  | with_reducible refine rd_if ?_
  | with_reducible refine rd_isN ?_
  | with_reducible refine rd_iT ?_
  | with_reducible refine rd_iF ?_
  | with_reducible refine rd_ret ?_
  | with_reducible refine rd_retN ?_
  | with_reducible refine rd_drop ?_
  | with_reducible refine rd_next ?_
  | with_reducible refine rd_cont ?_
  | with_reducible refine rd_brk ?_
  | with_reducible refine rd_nx ?_
  | with_reducible refine rd_rt ?_
  | with_reducible refine rd_ct ?_
  | with_reducible refine rd_bk ?_
  | with_reducible refine rd_par ?_
  | with_reducible refine rd_par3 ?_
  | with_reducible refine rd_par2 ?_
  | with_reducible refine rd_par33 ?_
  | with_reducible refine rd_gcons ?_
  | with_reducible refine rd_gnil ?_
  | with_reducible refine rd_sub ?_
  | with_reducible refine rd_tup ?_
  | with_reducible refine rd_lst ?_
  | ((with_reducible refine rd_tupT ?hl ?_); (case hl => exact Nat.le_of_ble_eq_true rfl))
  | ((with_reducible refine rd_lstT ?hl ?_); (case hl => exact Nat.le_of_ble_eq_true rfl))
  | with_reducible refine rd_bm ?_
  | with_reducible refine rd_bm0 ?_
  | with_reducible refine rd_sl ?_
  | with_reducible refine rd_noP ?_
  | with_reducible refine rd_part ?_
  | with_reducible refine rd_int ?_
  | with_reducible refine rd_int1 ?_
  | with_reducible refine rd_fld ?_
  | with_reducible refine rd_then ?_
  | with_reducible refine rd_raise ?_
  | with_reducible refine rd_one ?_
  | with_reducible refine rd_sfld ?_
  | with_reducible refine rd_ilist ?_
  | with_reducible refine rd_itup ?_
  | with_reducible refine rd_rng1 ?_
  | with_reducible refine rd_enum ?_
  | with_reducible refine rd_enumT ?_)
local macro_rules | `(tactic| walk_at "rd") => `(tactic| repeat (walk_at "rd1"))
def spDrawn : Sp := fun vs H Q _ => ∃ (p q : Addr) (k : Int) (n : Nat), vs = [.ref p, .int k, .int (n : Nat)] ∧ Deal H p q ∧ 1 ≤ k ∧ k ≤ 4 ∧ 1 ≤ n ∧ n < 10 ∧
  ∀ (H' : Hp) (t a l : Addr) (ms : List Int) (ps : List Addr) (L : List (Int × Int)), Deal H' p q → Fix p q H H' → H' t = some (.tup [.ref a, .ref l]) → H a = none → H l = none → a ≠ l → a ≠ p → a ≠ q → l ≠ p → l ≠ q →
    H' a = some (.lst (ms.map V.int)) → ms.length = n → (∀ m ∈ ms, 0 ≤ m ∧ m < 4) →
    H' l = some (.lst (ps.map V.ref)) → Paired (PairAt H') ps L → Good n 4 L → L.Pairwise lexlt → Q (.ref t) H'
/-- ints and pairs -/
def Els (H : Hp) (xs : List V) : Prop := ∀ x ∈ xs, (∃ n, x = V.int n) ∨ ∃ t e, x = V.ref t ∧ PairAt H t e
def spMixed : Sp := fun vs H Q _ => ∃ (p q a : Addr) (xs : List V), vs = [.ref p, .ref a] ∧ Deal H p q ∧ H a = some (.lst xs) ∧ Els H xs ∧ xs.length ≤ 100 ∧
  ∀ (H' : Hp) (l : Addr) (ys : List V), Deal H' p q → Fix p q H H' → H l = none → l ≠ p → l ≠ q → ys.Perm xs → H' l = some (.lst ys) → Q (.ref l) H'
theorem Els.fix {H H' : Hp} {p q : Addr} {xs : List V} (h : Els H xs) (d : Deal H p q) (f : Fix p q H H') : Els H' xs := fun x hx => by
  rcases h x hx with z | ⟨t, e, rfl, z⟩
  · exact .inl z
  · exact .inr ⟨t, e, rfl, Fix.keep f d z (fun _ e => by cases e)⟩
theorem Els.same {H H' : Hp} {xs : List V} (h : Els H xs) (s : Same H H') : Els H' xs := fun x hx => by
  rcases h x hx with z | ⟨t, e, rfl, z⟩
  · exact .inl z
  · exact .inr ⟨t, e, rfl, s _ _ z⟩
theorem Els.upd {H : Hp} {l : Addr} {xs : List V} {us ys : List V} (h : Els H xs) (hl : H l = some (.lst us)) : Els (L2.upd H l (.lst ys)) xs := fun x hx => by
  rcases h x hx with z | ⟨t, e, rfl, z⟩
  · exact .inl z
  · have z' : H t = some _ := z
    refine .inr ⟨t, e, rfl, ?_⟩
    show L2.upd H l _ t = some _
    rw [upd_ne (fun y => by rw [y, hl] at z'; cases z')]
    exact z'
theorem Els.sub {H : Hp} {xs ys : List V} (h : Els H xs) (s : ∀ y ∈ ys, y ∈ xs) : Els H ys := fun y hy => h y (s y hy)
def dOf (H : Hp) : V → PyData
  | .int n => .int n
  | .ref t => dP (pairO (H t))
  | _ => .int 0
theorem els_dp {K : PySem.W.Frag} {H : Hp} : ∀ {xs : List V}, Els H xs → DpAll K H xs (xs.map (dOf H))
  | [], _ => .nil
  | x :: xs, h => by
    refine .cons ?_ (els_dp fun y hy => h y (List.mem_cons_of_mem _ hy))
    rcases h x List.mem_cons_self with ⟨n, rfl⟩ | ⟨t, e, rfl, z⟩
    · exact .int n
    · have : dOf H (.ref t) = dP e := by
        show dP (pairO (H t)) = dP e
        have z' : H t = some _ := z
        rw [z']; rfl
      rw [this]
      exact dp_pair z
theorem dOf_lay (H : Hp) : ∀ xs : List V, PyData.canLayAll0 (xs.map (dOf H)) = true
  | [] => rfl
  | x :: xs => by
    show (PyData.canLay0 (dOf H x) && PyData.canLayAll0 (xs.map (dOf H))) = true
    rw [dOf_lay H xs]
    cases x <;> rfl
theorem dOf_dep (H : Hp) : ∀ xs : List V, PyData.depthAll (xs.map (dOf H)) ≤ 2
  | [] => Nat.zero_le 2
  | x :: xs => by
    have h := dOf_dep H xs
    show max (PyData.depth (dOf H x)) (PyData.depthAll (xs.map (dOf H))) ≤ 2
    have h1 : PyData.depth (dOf H x) ≤ 1 := by cases x <;> (first | exact Nat.zero_le _ | exact Nat.le_refl _)
    omega
theorem dOf_sh (H : Hp) (xs : List V) : SeqAt.shaped (.list (xs.map (dOf H))) = true := by
  have h := dOf_dep H xs
  have h1 : PyData.depth (.list (xs.map (dOf H))) = PyData.depthAll (xs.map (dOf H)) + 1 := rfl
  unfold SeqAt.shaped
  have h2 : PyData.canLay0 (.list (xs.map (dOf H))) = PyData.canLayAll0 (xs.map (dOf H)) := rfl
  rw [h2, dOf_lay, h1, Bool.true_and]
  exact decide_eq_true (by omega)
theorem dOf_nil (H : Hp) (xs : List V) : PyData.eqv (.list (xs.map (dOf H))) (.list ([] : List PyData)) = decide (xs = []) := by cases xs <;> rfl
section
variable {P : Program} {w : World} {K : PySem.W.Frag} {mg : Str → Option Value} {base : Heap} (T : TX K mg)
theorem G__law_network : FnOk P w K mg base CX0 3 T.f__law_network T.d__law_network ["deal", "kinds", "many"] spDrawn := by
  refine T.F__law_network.ok sc__law_network (fun vs H Q E h => ?_) fun cdv A outer s H vs Q E hr h => ⟨_, (pss_cons (ps_asg (pe_tup (pa_cons (pe_call (G__law_any T) (hr.mono (by decide)) (by rfl) T.m__law_any T.F__law_any.kp T.b__law_any .nil pass0 (by exact (pa_cons (pv 0) (pa_cons (pv 1) pa_nil)))) (pa_cons (pe_call (G__law_any T) (hr.mono (by decide)) (by rfl) T.m__law_any T.F__law_any.kp T.b__law_any .nil pass0 (by exact (pa_cons (pv 0) (pa_cons pe_int pa_nil)))) pa_nil))) (pg_tupK (K := K) (n := 2) (by rfl) (pgs_cons (pg_name (i := 3) sc__law_network.nd rfl (.inr rfl)) (pgs_cons (pg_name (i := 4) sc__law_network.nd rfl (.inr rfl)) pgs_nil)))) (pss_cons (ps_setLc (i := 5) (own := [("at", 6)]) (by rfl) sc__law_network.nd rfl rfl (sw_true rfl rfl rfl (by decide +kernel)) (pi_range1 (by rfl) T.n_range (by exact (pa_cons (pv 2) pa_nil))) (blkOk_by (own := [("at", 6)]) (N := N__law_network) (sc := defScope s__law_network) (by decide +kernel)) (fun _ _ _ _ _ => (pg_name (i := 6) sc__law_network.nd rfl (.inl rfl))) (fun _ _ _ _ _ => pts_nil) (fun _ _ _ _ _ => (pe_ifExp (pt_cmpR op_eq (pv 4) pe_int (nomark _)) (pe_op op_mod (pe_callTy call_int1 (by rfl) T.n_int (by decide +kernel) (by exact (pa_cons (pe_op op_add (pv 3) (pv 6)) pa_nil))) (pv 1)) (pe_call (G__law_any T) (hr.mono (by decide)) (by rfl) T.m__law_any T.F__law_any.kp T.b__law_any .nil pass0 (by exact (pa_cons (pv 0) (pa_cons (pv 1) pa_nil)))))) ) (pss_one (ps_ret (pe_tup (pa_cons (pv 5) (pa_cons (pe_call (G__law_links T) (hr.mono (by decide)) (by rfl) T.m__law_links T.F__law_links.kp T.b__law_links .nil pass0 (by exact (pa_cons (pv 0) (pa_cons (pv 2) pa_nil)))) pa_nil))))))), ?_⟩
  · obtain ⟨p, q, k, n, rfl, _⟩ := h
    rfl
  · obtain ⟨p, q, k, n, rfl, d, k1, k4, n1, n10, hQ⟩ := h
    walk_at "rd"
    refine ⟨p, q, k, rfl, d, by omega, by omega, fun H1 st d1 f1 st0 stk => ?_⟩
    walk_at "rd"
    refine ⟨p, q, 3, rfl, d1, by omega, by omega, fun H2 tn d2 f2 t0 t3 => ?_⟩
    walk_at "rd"
    intro t H3 tt0 S3 ht
    refine rd_gtup (Tup.of ht) rfl ?_
    have d3 := d2.same S3
    walk_at "rd"
    refine ⟨by omega, by omega, fun D hD => ?_⟩
    obtain ⟨d4, Dp, Dq⟩ := d3.new (o := .lst []) hD
    have D0 : H D = none := f1.free d1 (f2.free d2 (S3.free hD))
    refine lc_range (lo := 0) (n := n) (fun i H' => Deal H' p q ∧ Fix p q H3 H' ∧ ∃ ms : List Int, H' D = some (.lst (ms.map V.int)) ∧ ms.length = i ∧ ∀ m ∈ ms, 0 ≤ m ∧ m < 4)
      ⟨d4, Fix.new hD, [], upd_same, rfl, by simp⟩ (fun i H' hi pv => ?_) (fun H' pv => ?_)
    · obtain ⟨d5, f5, ms, hms, lms, bms⟩ := pv
      have put : ∀ (H6 : Hp) (j : Int), Deal H6 p q → Fix p q H' H6 → 0 ≤ j → j < k → ∃ acc, H6 D = some (.lst acc) ∧ acc.length < sizeLine ∧ (Deal (upd H6 D (.lst (acc ++ [V.int j]))) p q ∧ Fix p q H3 (upd H6 D (.lst (acc ++ [V.int j]))) ∧
          ∃ ms : List Int, upd H6 D (.lst (acc ++ [V.int j])) D = some (.lst (ms.map V.int)) ∧ ms.length = i + 1 ∧ ∀ m ∈ ms, 0 ≤ m ∧ m < 4) := fun H6 j d6 f6 j0 jk => by
        refine ⟨_, f6 _ _ Dp Dq hms, ?_, d6.off Dp Dq, (f5.trans f6).upd hD, ms ++ [j], ?_, by simp [lms], fun m hm => ?_⟩
        · rw [List.length_map]
          exact Nat.lt_of_le_of_lt (by omega : ms.length ≤ 100) (by decide)
        · rw [upd_same]; simp
        · rcases List.mem_append.mp hm with z | z
          · exact bms m z
          · rw [List.mem_singleton.mp z]; omega
      walk_at "rd"
      refine ⟨rfl, ?_⟩
      walk_at "rd"
      by_cases c : tn = 0
      · refine iteT' (decide_eq_true c) ?_
        walk_at "rd"
        refine .inl ⟨_, rfl, ?_⟩
        walk_at "rd"
        refine rd_rI (by omega) ?_
        exact put H' _ d5 (Fix.refl _ _ _) (Int.emod_nonneg _ (by omega)) (Int.emod_lt_of_pos _ (by omega))
      · refine iteF' (decide_eq_false c) ?_
        walk_at "rd"
        refine ⟨p, q, k, rfl, d5, by omega, by omega, fun H6 j d6 f6 j0 jk => ?_⟩
        exact put H6 j d6 f6 j0 jk
    · obtain ⟨d5, f5, ms, hms, lms, bms⟩ := pv
      walk_at "rd"
      refine ⟨p, q, n, rfl, d5, n1, n10, fun H6 l ps L d6 f6 l0 lp lq hl hps g sr => ?_⟩
      walk_at "rd"
      intro t' H7 t'0 S7 ht'
      have hms6 := f6 _ _ Dp Dq hms
      have Dl : D ≠ l := fun z => by rw [z, l0] at hms; cases hms
      exact hQ H7 t' D l ms ps L (d6.same S7) (f1.trans (f2.trans ((Fix.same S3).trans (f5.trans (f6.trans (Fix.same S7)))))) ht' D0 (f1.free d1 (f2.free d2 (S3.free (f5.free d5 l0)))) Dl Dp Dq lp lq
        (S7 _ _ hms6) lms bms (S7 _ _ hl) (pairs_same hps S7) g sr
theorem G__law_mixed : FnOk P w K mg base CX0 2 T.f__law_mixed T.d__law_mixed ["deal", "some"] spMixed := by
  refine T.F__law_mixed.ok sc__law_mixed (fun vs H Q E h => ?_) fun cdv A outer s H vs Q E hr h => ⟨_, (pss_cons (ps_par (i := 2) (j := 3) (by rfl) sc__law_mixed.nd rfl rfl (by decide) rfl rfl (pa_cons (pe_callTy (cr_listK (K := K)) (by rfl) T.n_list (by decide +kernel) (by exact (pa_cons (pv 1) pa_nil))) (pa_cons (pe_lst pa_nil) pa_nil)) (by rfl)) (pss_cons (ps_while PassesOwn.never (pt_cmpR (op_neDK (K := K) hr.units) (pv 2) (pe_lst pa_nil) (nomark _)) (pss_one (ps_expr (pe_bmK (K := K) PySem.F.slot_list_append PySem.F.type_list_append mt_append (pv 3) (by exact (pa_cons (pe_bmK (K := K) PySem.F.slot_list_pop PySem.F.type_list_pop mt_popAt (pv 2) (by exact (pa_cons (pe_call (G__law_any T) (hr.mono (by decide)) (by rfl) T.m__law_any T.F__law_any.kp T.b__law_any .nil pass0 (by exact (pa_cons (pv 0) (pa_cons (pe_callB (cr_lenK (K := K)) (by rfl) T.n_len (by decide +kernel) (by exact (pa_cons (pv 2) pa_nil))) pa_nil)))) pa_nil))) pa_nil)))))) (pss_one (ps_ret (pv 3))))), ?_⟩
  · obtain ⟨p, q, a, xs, rfl, _⟩ := h
    rfl
  · obtain ⟨p, q, a, xs, rfl, d, ha, el, hl, hQ⟩ := h
    walk_at "rd"
    refine rd_list (.inl (SqL.of ha)) ?_
    intro l H1 l0 S1 hl1
    walk_at "rd"
    intro g H2 g0 S2 hg
    walk_at "rd"
    have d1 := d.same S1
    have d2 := d1.same S2
    obtain ⟨lp, lq⟩ := d.nes l0
    obtain ⟨gp, gq⟩ := d1.nes g0
    have gl : g ≠ l := fun z => by rw [z, hl1] at g0; cases g0
    have gn : H g = none := S1.free g0
    have f2 : Fix p q H H2 := Fix.same (S1.trans S2)
    refine ⟨fun n σ H' => σ = [some (.ref p), some (.ref a), some (.ref l), some (.ref g)] ∧ Deal H' p q ∧ Fix p q H H' ∧ ∃ ls fs : List V, H' l = some (.lst ls) ∧ H' g = some (.lst fs) ∧ (fs ++ ls).Perm xs ∧ Els H' ls ∧ n = ls.length,
      ⟨_, rfl, d2, f2, xs, [], S2 _ _ hl1, hg, by simp, el.same (S1.trans S2), rfl⟩, ?_⟩
    rintro n σ H' ⟨rfl, d', f', ls, fs, hls, hfs, perm, el', rfl⟩
    have len : fs.length + ls.length = xs.length := by rw [← perm.length_eq, List.length_append]
    walk_at "rd"
    intro e H3 e0 S3 he
    have hls3 := S3 _ _ hls
    have hfs3 := S3 _ _ hfs
    have el3 := el'.same S3
    have d3 := d'.same S3
    have f3 : Fix p q H H3 := f'.trans (Fix.same S3)
    refine ⟨_, _, .lst (SqL.of hls3) (els_dp el3), .lst (ds := []) (SqL.of he) .nil, dOf_sh H3 ls, by decide, _, rfl, ?_⟩
    rw [dOf_nil]
    by_cases h0 : ls = []
    · subst h0
      refine iteF' (by simp) ?_
      walk_at "rd"
      exact hQ H3 g fs d3 f3 gn gp gq (by simpa using perm) hfs3
    · have nz : (!decide (ls = [])) = true := by simp [h0]
      have pos : 0 < ls.length := List.length_pos_iff.mpr h0
      refine iteT' nz ⟨fun σ' H'' => σ' = [some (.ref p), some (.ref a), some (.ref l), some (.ref g)] ∧ Deal H'' p q ∧ Fix p q H H'' ∧ ∃ ls' fs : List V, H'' l = some (.lst ls') ∧ H'' g = some (.lst fs) ∧ (fs ++ ls').Perm xs ∧ Els H'' ls' ∧ ls'.length < ls.length,
        fun σ' H'' ⟨e1, e2, e3, ls', fs', e4, e5, e6, e6', e7⟩ => ⟨ls'.length, e7, e1, e2, e3, ls', fs', e4, e5, e6, e6', rfl⟩, ?_⟩
      walk_at "rd"
      refine rd_ty hfs3 ?_
      walk_at "rd"
      refine rd_ty hls3 ?_
      walk_at "rd"
      refine rd_len hls3 ?_
      walk_at "rd"
      refine ⟨p, q, _, rfl, d3, by omega, by omega, fun H4 i d4 f4 i0 i1 => ?_⟩
      have hls4 := f4 _ _ lp lq hls3
      have hfs4 := f4 _ _ gp gq hfs3
      have el4 := el3.fix d3 f4
      have hi : i.toNat < ls.length := by omega
      refine ⟨l, ls, i, i.toNat, ls[i.toNat], rfl, rfl, hls4, by omega, by omega, seqIx i0 i1, List.getElem?_eq_getElem hi, ?_⟩
      have hg5 : upd H4 l (.lst (ls.eraseIdx i.toNat)) g = some (.lst fs) := by rw [upd_ne gl]; exact hfs4
      walk_at "rd"
      refine rd_app hg5 (by omega) ?_
      walk_at "rd"
      have sub : ∀ y ∈ ls.eraseIdx i.toNat, y ∈ ls := fun y hy => List.mem_of_mem_eraseIdx hy
      refine ⟨rfl, (d4.off lp lq).off gp gq, ((f3.trans f4).upd l0).upd gn, ls.eraseIdx i.toNat, fs ++ [ls[i.toNat]], ?_, upd_same, ?_, ((el4.sub sub).upd hls4).upd hg5, ?_⟩
      · rw [upd_ne (Ne.symm gl), upd_same]
      · refine List.Perm.trans ?_ perm
        rw [List.append_assoc]
        exact List.Perm.append_left fs (erase_perm ls i.toNat hi)
      · rw [List.length_eraseIdx, if_pos hi]; omega
end
end K04

namespace K04
open PySem PySem.Spec PyProof.Rows L2 KX LamX
local macro_rules | `(tactic| walk_at "rd1") => `(tactic| first
  | with_reducible refine rd_seq ?_
  | with_reducible refine rd_for ?_
  | with_reducible refine rd_lc ?_
  | with_reducible refine rd_asg ?_
  | ((with_reducible refine' rd_var ?rdv ?_); (case rdv => exact rfl))
  | with_reducible refine rd_c ?_
  | with_reducible refine rd_op ?_
  | with_reducible refine rd_un ?_
  | with_reducible refine rd_cons ?_
  | with_reducible refine rd_nil ?_
  | with_reducible refine rd_call ?_
  | with_reducible refine rd_cb ?_
  | with_reducible refine rd_tB ?_
  | with_reducible refine rd_test ?_
  | with_reducible refine rd_bl ?_
  | with_reducible refine rd_rI0 ?_
  | with_reducible refine rd_eqI ?_
  | with_reducible refine rd_neI ?_
  | with_reducible refine rd_rU ?_
  | with_reducible refine rd_name ?_
  | with_reducible refine rd_ifs ?_
  | with_reducible refine rd_and ?_
  | with_reducible refine rd_or ?_
  | with_reducible refine rd_not ?_
  | with_reducible refine rd_yes ?_
  | with_reducible refine rd_andV ?_
  | with_reducible refine rd_orV ?_
  | with_reducible refine rd_notV ?_
  | with_reducible refine rd_if ?_
  | with_reducible refine rd_isN ?_
  | with_reducible refine rd_iT ?_
  | with_reducible refine rd_iF ?_
  | with_reducible refine rd_ret ?_
  | with_reducible refine rd_retN ?_
  | with_reducible refine rd_drop ?_
  | with_reducible refine rd_next ?_
  | with_reducible refine rd_cont ?_
  | with_reducible refine rd_brk ?_
  | with_reducible refine rd_nx ?_
  | with_reducible refine rd_rt ?_
  | with_reducible refine rd_ct ?_
  | with_reducible refine rd_bk ?_
  | with_reducible refine rd_par ?_
  | with_reducible refine rd_par3 ?_
  | with_reducible refine rd_par2 ?_
  | with_reducible refine rd_par33 ?_
  | with_reducible refine rd_gcons ?_
  | with_reducible refine rd_gnil ?_
  | with_reducible refine rd_sub ?_
  | with_reducible refine rd_tup ?_
  | with_reducible refine rd_lst ?_
  | ((with_reducible refine rd_tupT ?hl ?_); (case hl => exact Nat.le_of_ble_eq_true rfl))
  | ((with_reducible refine rd_lstT ?hl ?_); (case hl => exact Nat.le_of_ble_eq_true rfl))
  | with_reducible refine rd_bm ?_
  | with_reducible refine rd_bm0 ?_
  | with_reducible refine rd_sl ?_
  | with_reducible refine rd_noP ?_
  | with_reducible refine rd_part ?_
  | with_reducible refine rd_int ?_
  | with_reducible refine rd_int1 ?_
  | with_reducible refine rd_fld ?_
  | with_reducible refine rd_then ?_
  | with_reducible refine rd_raise ?_
  | with_reducible refine rd_one ?_
  | with_reducible refine rd_sfld ?_
  | with_reducible refine rd_ilist ?_
  | with_reducible refine rd_itup ?_
  | with_reducible refine rd_rng1 ?_
  | with_reducible refine rd_enum ?_
  | with_reducible refine rd_enumT ?_)
local macro_rules | `(tactic| walk_at "rd") => `(tactic| repeat (walk_at "rd1"))
/-! ### the def that hears -/
theorem pss_given {X : Cx} {ss : List Stmt} {t : TS} {p : Prop} {n : Nat} (hn : X.N.length = n) (h : p → PSs X ss t) : PSs X ss (fun D σ H => p ∧ (σ.length = n → t D σ H)) :=
  ⟨fun pins s σ H D I q => (h q.1).run pins s σ H D I (q.2 (I.len.trans hn))⟩
/-- what is known of the error's class -/
structure IsQ (K : PySem.W.Frag) (CQ CN : Addr) : Prop where
  x : ExcC K CQ
  kit : PySem.W.kitOne K (.ref CQ) (.ref CN) = some true
  xf : XfC K CQ
  no : PySem.W.findIn K (.ref CQ) "at" = some none
  exm : PySem.W.exmOne K (.ref CQ) (.ref CQ) = some true
/-- heard: the number told goes on -/
def Hear (CQ : Addr) (Q : VK) : XK := fun cls d H' => ∃ dd v, cls = .ref CQ ∧ d = some dd ∧ H' dd = some (.xd [(("at" : Str), v)]) ∧ Q v H'
def TTref (CQ : Addr) : (XK → Hp → VK → Prop) → Hp → VK → Prop := fun tl H Q => tl (Hear CQ Q) H (fun _ H' => Q .non H')
def tRefS (K : PySem.W.Frag) (CQ CN a : Addr) (cls : Value) (d : Option Addr) : TS :=
  tRet (tIf (tB (tCB (rIsP K CQ a d) (tCons (tVar 1) (tCons (tC (.ref CN)) tNil)))) (tXf a cls d CQ "at" (tVar 1)) (tC .non))
theorem gives {X : Cx} {g CQ CN : Addr} {cdg : Value} {q : Str} (T : IsQ X.K CQ CN) (gQ : X.mg "InvalidNetwork" = some (.ref CQ)) (gN : X.mg "NetError" = some (.ref CN)) (gis : X.mg "isinstance" = none) :
    GivesTo X ["work", "e"] "_law_refused" (defScope s__law_refused) g cdg (defBody s__law_refused) "work" q (TTref CQ) := by
  intro f c' s H Q tl act hc h
  refine ⟨_, pss_cons (L2.ps_try_as (X := (cxOf C8.CX0 X.prog X.w X.K X.mg X.base ["work", "e"] "_law_refused" (defScope s__law_refused) g cdg X.A X.stack s H C8.E0).nox) (i := 1) (c := .ref CQ)
      (tb := fun W D σ H => ∃ Ech : XK, (∀ cls d σ' H', Ech cls d H' → W cls d σ' H') ∧ σ[0]? = some (some (.ref f)) ∧ H c' = some (CodeO c' q) ∧ tl Ech H (fun _ H' => D.nx σ H'))
      (ts := fun a cls d D σ H => cls = .ref CQ ∧ (σ.length = 2 → tRefS X.K CQ CN a cls d D σ H)) (Wout := fun _ _ _ _ => False)
      rfl rfl sc__law_refused.nd rfl rfl ⟨rfl, by decide, .inl gQ⟩ LamX.takes0 (fun W pn xe tk _ => ?_) (fun a oe cls d pn hz hf => pss_given (n := 2) rfl fun hcls => ?_)) (pss_one (ps_ret pe_non)), ?_⟩
  · refine ⟨fun pins s' σ H' D I h' => ?_⟩
    obtain ⟨Ech, hW, h1, h2, h3⟩ := h'
    exact (pss_one (ps_expr (act W pn xe Ech _ _ tk hW))).run pins s' σ H' D I ⟨h1, h2, h3⟩
  · subst hcls
    exact pss_one (ps_ret (pe_ifExp (pt_val (pe_callB (call_isP T.x List.mem_cons_self hz hf) (by rfl) gis (by decide +kernel)
      (by exact pa_cons (pv 1) (pa_cons (pe_glob (v := .ref CN) rfl gN rfl) pa_nil)))) (pe_xf T.xf T.no hz hf (pv 1)) pe_non))
  · refine ⟨Hear CQ Q, fun cls d σ' H' h => ?_, rfl, hc, h⟩
    obtain ⟨dd, v, rfl, rfl, hdd, hQ⟩ := h
    refine ⟨true, T.exm, fun _ a _ => ⟨rfl, fun hl => ?_⟩, fun z => Bool.noConfusion z⟩
    rw [List.length_set] at hl
    have l1 : (σ'.set 1 (some (V.ref a)))[1]? = some (some (V.ref a)) := by
      rw [List.getElem?_set_self (by omega)]
    exact ⟨.ref a, l1, Or.inr ⟨dd, _, rfl, hdd⟩, .ref CN, .ref CN, true, rfl, fun u hu => hu, T.kit, true, rfl, iteT ⟨.ref a, l1, rfl, rfl, dd, _, v, rfl, hdd, by simp [List.lookup], hQ⟩⟩
/-! ### what stays -/
structure Kp (p q : Addr) (H H' : Hp) : Prop where
  nl : ∀ a o, H a = some o → (∀ xs, o ≠ .lst xs) → (∀ ps, o ≠ .tbl ps) → H' a = some o
  ls : ∀ a xs, a ≠ p → a ≠ q → H a = some (.lst xs) → H' a = some (.lst xs)
theorem Kp.refl {p q : Addr} {H : Hp} : Kp p q H H := ⟨fun _ _ h _ _ => h, fun _ _ _ _ h => h⟩
theorem Kp.trans {p q : Addr} {H H1 H2 : Hp} (a : Kp p q H H1) (b : Kp p q H1 H2) : Kp p q H H2 :=
  ⟨fun c o h n t => b.nl c o (a.nl c o h n t) n t, fun c xs h1 h2 h => b.ls c xs h1 h2 (a.ls c xs h1 h2 h)⟩
theorem Kp.same {p q : Addr} {H H' : Hp} (s : Same H H') : Kp p q H H' := ⟨fun a o h _ _ => s a o h, fun a xs _ _ h => s a _ h⟩
theorem Kp.fix {p q : Addr} {H H' : Hp} (d : Deal H p q) (f : Fix p q H H') : Kp p q H H' := ⟨fun a o h n _ => f.keep d h n, fun a xs h1 h2 h => f a _ h1 h2 h⟩
theorem Kp.extN {p q : Addr} {H H' : Hp} (e : ExtN H H') : Kp p q H H' := ⟨fun a o h _ t => e a o h t, fun a xs _ _ h => e a _ h (fun ps z => nomatch z)⟩
theorem tabs_fix {T : List (Addr × Str)} {H H' : Hp} {p q : Addr} (t : Tabs T H) (d : Deal H p q) (f : Fix p q H H') : Tabs T H' := fun z hz => by
  obtain ⟨ps, h1, h2, h3⟩ := t z hz
  refine ⟨ps, f.keep d h1 (fun xs e => nomatch e), h2, fun pos cv hc => ?_⟩
  obtain ⟨c, e1, e2⟩ := h3 pos cv hc
  exact ⟨c, e1, f.keep d e2 (fun xs e => by unfold CodeO at e; cases e)⟩
theorem Deal.extN {H H' : Hp} {p q : Addr} (d : Deal H p q) (e : ExtN H H') : Deal H' p q := by
  obtain ⟨ns, b, d⟩ := d
  exact ⟨ns, b, e _ _ d.hp (fun ps z => nomatch z), e _ _ d.hq (fun ps z => nomatch z), d.ne, d.nn, d.len, d.b0, d.b1⟩
theorem Kp.tup {p q : Addr} {H H' : Hp} {a : Addr} {xs : List V} (k : Kp p q H H') (h : H a = some (.tup xs)) : H' a = some (.tup xs) :=
  k.nl _ _ h (fun xs e => nomatch e) (fun ps e => nomatch e)
theorem Kp.tupR {p q : Addr} {H H' : Hp} {a : Addr} {xs : List V} (k : Kp p q H H') (h : Tup H a xs) : Tup H' a xs := by
  rcases h with h | ⟨o, h⟩
  · exact .inl (k.tup h)
  · exact .inr ⟨o, k.nl _ _ h (fun xs e => nomatch e) (fun ps e => nomatch e)⟩
theorem Kp.pair {p q : Addr} {H H' : Hp} {a : Addr} {e : Int × Int} (k : Kp p q H H') (h : PairAt H a e) : PairAt H' a e := k.tup h
theorem Kp.pairs {p q : Addr} {H H' : Hp} {ps : List Addr} {L : List (Int × Int)} (k : Kp p q H H') (h : Paired (PairAt H) ps L) : Paired (PairAt H') ps L := paired_mono h fun _ _ z => k.pair z
theorem Kp.net {p q : Addr} {H H' : Hp} {C n : Addr} {ms : List Int} {R : List (List Int)} {L : List (Int × Int)} (k : Kp p q H H') (h : NetAt C H n ms R L) : NetAt C H' n ms R L := by
  obtain ⟨dx, pm, pn, pl, qs, ps, h1, h2, h3, h4, h5, h6⟩ := h.ob
  exact ⟨dx, pm, pn, pl, qs, ps, k.nl _ _ h1 (fun xs e => nomatch e) (fun ps e => nomatch e), k.tupR h2, k.tup h3, paired_mono h4 fun _ _ z => k.tupR z, k.tup h5, k.pairs h6⟩
/-! ### networks made, and refused -/
/-- the first index where it goes wrong -/
def BadAt (os : List (Option Int)) (i : Nat) : Prop := (∃ o, os[i]? = some o ∧ bel4 o = false) ∧ ∀ j o', j < i → os[j]? = some o' → bel4 o' = true
theorem BadAt.uniq {os : List (Option Int)} {i j : Nat} (h : BadAt os i) (h' : BadAt os j) : i = j := by
  obtain ⟨⟨o, e, b⟩, f⟩ := h
  obtain ⟨⟨o', e', b'⟩, f'⟩ := h'
  rcases Nat.lt_trichotomy i j with z | z | z
  · rw [f' i o z e] at b; cases b
  · exact z
  · rw [f j o' z e'] at b'; cases b'
/-- the first link that cannot be -/
def BadL (n : Nat) (es : List (Option (Int × Int))) (i : Nat) : Prop := ∃ e R, es[i]? = some e ∧ runP (emptyR n) (es.take i) = some R ∧ okL R e = false
theorem runP_take : ∀ (es : List (Option (Int × Int))) (i : Nat) (R R' : List (List Int)), runP R es = some R' → ∃ R1, runP R (es.take i) = some R1
  | es, 0, R, R', _ => ⟨R, by rw [List.take_zero]; rfl⟩
  | [], i + 1, R, R', _ => ⟨R, rfl⟩
  | e :: es, i + 1, R, R', h => by
    cases hs : stepL R e with
    | none =>
      have h : (stepL R e).bind (fun R' => runP R' es) = some R' := h
      rw [hs] at h; cases h
    | some R2 =>
      have h' : (stepL R e).bind (fun R' => runP R' es) = some R' := h
      rw [hs] at h'
      obtain ⟨R1, h1⟩ := runP_take es i R2 R' h'
      refine ⟨R1, ?_⟩
      show (stepL R e).bind (fun R' => runP R' (es.take i)) = some R1
      rw [hs]
      exact h1
theorem BadL.next {n : Nat} {es : List (Option (Int × Int))} {i : Nat} (h : BadL n es i) : runP (emptyR n) (es.take (i + 1)) = none := by
  obtain ⟨e, R, h1, h2, h3⟩ := h
  have : es.take (i + 1) = es.take i ++ [e] := by rw [List.take_succ, h1]; rfl
  rw [this, runP_snoc, h2]
  show stepL R e = none
  unfold stepL
  rw [if_neg (by rw [h3]; decide)]
theorem BadL.none {n : Nat} {es : List (Option (Int × Int))} {i j : Nat} (h : BadL n es i) (hj : i < j) : runP (emptyR n) (es.take j) = none := by
  cases e : runP (emptyR n) (es.take j) with
  | none => rfl
  | some R =>
    obtain ⟨R1, h1⟩ := runP_take _ (i + 1) _ _ e
    rw [List.take_take, Nat.min_eq_left hj, h.next] at h1
    cases h1
theorem BadL.uniq {n : Nat} {es : List (Option (Int × Int))} {i j : Nat} (h : BadL n es i) (h' : BadL n es j) : i = j := by
  rcases Nat.lt_trichotomy i j with z | z | z
  · obtain ⟨_, R, _, h2, _⟩ := h'
    rw [h.none z] at h2; cases h2
  · exact z
  · obtain ⟨_, R, _, h2, _⟩ := h
    rw [h'.none z] at h2; cases h2
theorem BadL.bad {n : Nat} {es : List (Option (Int × Int))} {i : Nat} (h : BadL n es i) : runP (emptyR n) es = .none := by
  obtain ⟨e, R, h1, h2, h3⟩ := id h
  have hi := (List.getElem?_eq_some_iff.mp h1).1
  have := h.none (j := es.length) hi
  rwa [List.take_length] at this
section
variable {K : PySem.W.Frag} {C CI s dx : Addr} {x z : V} {H : Hp} {Q : VK} {E : XK}
abbrev made (H : Hp) (C s dx : Addr) : Hp := upd (upd H dx (.own s)) s (.ins C dx [])
theorem made_same (hs : H s = none) (hd : H dx = none) : Same H (made H C s dx) := fun a o e => by
  show upd (upd H dx (.own s)) s _ a = some o
  rw [upd_ne (fun y => by rw [y, hs] at e; cases e), upd_ne (fun y => by rw [y, hd] at e; cases e)]
  exact e
theorem ex_same {H' : Hp} (hs : H s = none) (hd : H dx = none) (h : Ex s (made H C s dx) H') : Same H H' := fun a o e =>
  h a o (fun y => by rw [y, hs] at e; cases e) (made_same hs hd a o e)
/-- what a handler of refusals gets -/
def Told (CI : Addr) (E : XK) (H : Hp) (i : Int) : Prop := ∀ H' d, Same H H' → H' d = none → E (.ref CI) (some d) (upd H' d (.xd [(("at" : Str), .int i)]))
theorem told_x {i : Int} (h : Told CI E H i) (hs : H s = none) (hd : H dx = none) : ErrX CI E s (made H C s dx) i := fun H' d e hd' => h H' d (ex_same hs hd e) hd'
/-- modes that are none -/
theorem net_badM {o : Option (List V)} {i : Nat} (hs : H s = none) (hd : H dx = none) (hx : SqX K H x o)
    (hb : (o = none ∨ o = some []) ∧ i = 0 ∨ ∃ xs os, o = some xs ∧ Paired (Kin K H) xs os ∧ BadAt os i) (hE : Told CI E H i) : spNet K C CI [.ref s, x, z] (made H C s dx) Q E := by
  have S : Same H (made H C s dx) := made_same hs hd
  refine ⟨s, dx, x, z, o, rfl, upd_same, sqx_same hx S, fun e => ?_, fun e => ?_, fun xs e h0 => ?_⟩
  · rcases hb with ⟨_, rfl⟩ | ⟨xs, os, e', _⟩
    · exact told_x hE hs hd
    · rw [e'] at e; cases e
  · rcases hb with ⟨_, rfl⟩ | ⟨xs, os, e', p, ⟨o', h1, h2⟩, _⟩
    · exact told_x hE hs hd
    · rw [e'] at e; cases e
      cases p
      simp at h1
  · rcases hb with ⟨e' | e', rfl⟩ | ⟨xs', os, e', p, b⟩
    · rw [e'] at e; cases e
    · rw [e'] at e; cases e; exact absurd rfl h0
    · rw [e'] at e; cases e
      refine ⟨os, paired_mono p fun _ _ k => kin_same k S, fun j o' h1 h2 h3 => ?_, fun all => ?_⟩
      · have : i = j := b.uniq ⟨⟨o', h1, h3⟩, h2⟩
        subst this
        exact told_x hE hs hd
      · obtain ⟨⟨o', h1, h2⟩, _⟩ := b
        rw [all o' (List.mem_of_getElem? h1)] at h2; cases h2
theorem bel4_of {m : Int} (h0 : 0 ≤ m) (h1 : m < 4) : bel4 (some m) = true := by
  show (decide (0 ≤ m) && decide (m < 4)) = true
  rw [decide_eq_true h0, decide_eq_true h1]; rfl
theorem kin_all (K : PySem.W.Frag) (H : Hp) : ∀ ms : List Int, Paired (Kin K H) (ms.map V.int) (ms.map some)
  | [] => .nil
  | m :: ms => .cons (.int m) (kin_all K H ms)
/-- good modes, links that are none -/
theorem net_badL {ms : List Int} {o : Option (List V)} {i : Nat} (hs : H s = none) (hd : H dx = none) (hx : SqX K H x (some (ms.map V.int))) (m0 : ms ≠ []) (ml : ms.length < 1000) (mb : ∀ m ∈ ms, 0 ≤ m ∧ m < 4) (hz : SqX K H z o)
    (hb : o = none ∧ i = 0 ∨ ∃ zs es, o = some zs ∧ Paired (LkIs K H ms.length) zs es ∧ BadL ms.length es i) (hE : Told CI E H ((ms.length : Nat) + i)) : spNet K C CI [.ref s, x, z] (made H C s dx) Q E := by
  have S : Same H (made H C s dx) := made_same hs hd
  refine ⟨s, dx, x, z, _, rfl, upd_same, sqx_same hx S, fun e => (by cases e), fun e => ?_, fun xs e h0 => ?_⟩
  · exact absurd (List.map_eq_nil_iff.mp (Option.some.inj e)) m0
  · cases e
    refine ⟨ms.map some, kin_all K _ ms, fun j o' h1 _ h3 => ?_, fun _ => ⟨by rw [List.length_map]; exact ml, ms, rfl, o, sqx_same hz S, fun e => ?_, fun zs e => ?_⟩⟩
    · rw [List.getElem?_map] at h1
      obtain ⟨m, hm, rfl⟩ := Option.map_eq_some_iff.mp h1
      obtain ⟨a, b⟩ := mb m (List.mem_of_getElem? hm)
      rw [bel4_of a b] at h3; cases h3
    · rcases hb with ⟨_, rfl⟩ | ⟨zs, es, e', _⟩
      · have : ((ms.length : Nat) : Int) + ((0 : Nat) : Int) = (ms.length : Nat) := by omega
        rw [this] at hE
        exact told_x hE hs hd
      · rw [e'] at e; cases e
    · rcases hb with ⟨e', _⟩ | ⟨zs', es, e', p, b⟩
      · rw [e'] at e; cases e
      · rw [e'] at e; cases e
        refine ⟨es, paired_mono p fun _ _ k => k.same S, fun j e R h1 h2 h3 => ?_, fun R hR => ?_⟩
        · have : i = j := b.uniq ⟨e, R, h1, h2, h3⟩
          subst this
          exact told_x hE hs hd
        · rw [b.bad] at hR; cases hR
theorem le4_run : ∀ (M : List (Int × Int)) (R R' : List (List Int)), (∀ e ∈ M, 0 ≤ e.1 ∧ 0 ≤ e.2 ∧ e.1 ≠ e.2) → Le4 R → runP R (M.map some) = some R' → Le4 R'
  | [], R, R', _, h, e => by cases e; exact h
  | (a, b) :: M, R, R', hM, h, e => by
    have e : (stepL R (some (a, b))).bind (fun R1 => runP R1 (M.map some)) = some R' := e
    cases hs : stepL R (some (a, b)) with
    | none => rw [hs] at e; cases e
    | some R1 =>
      rw [hs] at e
      obtain ⟨h1, h2, h3⟩ := hM _ List.mem_cons_self
      have h1 : 0 ≤ a := h1
      have h2 : 0 ≤ b := h2
      have h3 : a ≠ b := h3
      exact le4_run M R1 R' (fun e he => hM e (List.mem_cons_of_mem _ he)) (h.step (fun x y z => by cases z; omega) hs) e
theorem le4_empty (n : Nat) : Le4 (emptyR n) := fun row hr => by
  unfold emptyR at hr
  rw [(List.mem_replicate.mp hr).2]
  exact Nat.zero_le _
/-- good modes, good links -/
theorem net_good {ms : List Int} {zs : List V} {L M : List (Int × Int)} (hs : H s = none) (hd : H dx = none) (hx : SqX K H x (some (ms.map V.int))) (m0 : ms ≠ []) (ml : ms.length < 1000) (mb : ∀ m ∈ ms, 0 ≤ m ∧ m < 4) (hz : SqX K H z (some zs))
    (hp : Paired (LkIs K H ms.length) zs (M.map some)) (g : Good ms.length 4 L) (srt : L.Pairwise lexlt) (pm : (M.map norm).Perm L)
    (hQ : ∀ H' R', Same H H' → NetAt C H' s ms R' L → Q .non H') : spNet K C CI [.ref s, x, z] (made H C s dx) Q E := by
  have S : Same H (made H C s dx) := made_same hs hd
  obtain ⟨R0, hR0, _⟩ := runs_nb (runs_of g pm) M.length (Nat.le_refl _)
  rw [List.take_length] at hR0
  have rs := runs_of g pm
  have hM : ∀ e ∈ M, 0 ≤ e.1 ∧ 0 ≤ e.2 ∧ e.1 ≠ e.2 := fun e he => by
    obtain ⟨i, hi⟩ := List.getElem?_of_mem he
    obtain ⟨a, _, b, _, c, _⟩ := rs i e hi
    exact ⟨a, b, c⟩
  refine ⟨s, dx, x, z, _, rfl, upd_same, sqx_same hx S, fun e => (by cases e), fun e => ?_, fun xs e h0 => ?_⟩
  · exact absurd (List.map_eq_nil_iff.mp (Option.some.inj e)) m0
  · cases e
    refine ⟨ms.map some, kin_all K _ ms, fun j o' h1 _ h3 => ?_, fun _ => ⟨by rw [List.length_map]; exact ml, ms, rfl, _, sqx_same hz S, fun e => (by cases e), fun zs' e => ?_⟩⟩
    · rw [List.getElem?_map] at h1
      obtain ⟨m, hm, rfl⟩ := Option.map_eq_some_iff.mp h1
      obtain ⟨a, b⟩ := mb m (List.mem_of_getElem? hm)
      rw [bel4_of a b] at h3; cases h3
    · cases e
      refine ⟨M.map some, paired_mono hp fun _ _ k => k.same S, fun j e R h1 h2 h3 => ?_, fun R hR h4 H' R' ex pr net => ?_⟩
      · have b : BadL ms.length (M.map some) j := ⟨e, R, h1, h2, h3⟩
        rw [b.bad] at hR0; cases hR0
      · rw [edges_back g srt pm hR pr] at net
        exact hQ H' R' (ex_same hs hd ex) net
end
end K04

namespace K04
open PySem PySem.Spec PyProof.Rows L2 KX LamX
local macro_rules | `(tactic| walk_at "rd1") => `(tactic| first
  | with_reducible refine rd_seq ?_
  | with_reducible refine rd_for ?_
  | with_reducible refine rd_lc ?_
  | with_reducible refine rd_asg ?_
  | ((with_reducible refine' rd_var ?rdv ?_); (case rdv => exact rfl))
  | with_reducible refine rd_c ?_
  | with_reducible refine rd_op ?_
  | with_reducible refine rd_un ?_
  | with_reducible refine rd_cons ?_
  | with_reducible refine rd_nil ?_
  | with_reducible refine rd_call ?_
  | with_reducible refine rd_cb ?_
  | with_reducible refine rd_tB ?_
  | with_reducible refine rd_test ?_
  | with_reducible refine rd_bl ?_
  | with_reducible refine rd_rI0 ?_
  | with_reducible refine rd_eqI ?_
  | with_reducible refine rd_neI ?_
  | with_reducible refine rd_rU ?_
  | with_reducible refine rd_name ?_
  | with_reducible refine rd_ifs ?_
  | with_reducible refine rd_and ?_
  | with_reducible refine rd_or ?_
  | with_reducible refine rd_not ?_
  | with_reducible refine rd_yes ?_
  | with_reducible refine rd_andV ?_
  | with_reducible refine rd_orV ?_
  | with_reducible refine rd_notV ?_
  | with_reducible refine rd_if ?_
  | with_reducible refine rd_isN ?_
  | with_reducible refine rd_iT ?_
  | with_reducible refine rd_iF ?_
  | with_reducible refine rd_ret ?_
  | with_reducible refine rd_retN ?_
  | with_reducible refine rd_drop ?_
  | with_reducible refine rd_next ?_
  | with_reducible refine rd_cont ?_
  | with_reducible refine rd_brk ?_
  | with_reducible refine rd_nx ?_
  | with_reducible refine rd_rt ?_
  | with_reducible refine rd_ct ?_
  | with_reducible refine rd_bk ?_
  | with_reducible refine rd_par ?_
  | with_reducible refine rd_par3 ?_
  | with_reducible refine rd_par2 ?_
  | with_reducible refine rd_par33 ?_
  | with_reducible refine rd_gcons ?_
  | with_reducible refine rd_gnil ?_
  | with_reducible refine rd_sub ?_
  | with_reducible refine rd_tup ?_
  | with_reducible refine rd_lst ?_
  | ((with_reducible refine rd_tupT ?hl ?_); (case hl => exact Nat.le_of_ble_eq_true rfl))
  | ((with_reducible refine rd_lstT ?hl ?_); (case hl => exact Nat.le_of_ble_eq_true rfl))
  | with_reducible refine rd_bm ?_
  | with_reducible refine rd_bm0 ?_
  | with_reducible refine rd_sl ?_
  | with_reducible refine rd_noP ?_
  | with_reducible refine rd_part ?_
  | with_reducible refine rd_int ?_
  | with_reducible refine rd_int1 ?_
  | with_reducible refine rd_fld ?_
  | with_reducible refine rd_then ?_
  | with_reducible refine rd_raise ?_
  | with_reducible refine rd_one ?_
  | with_reducible refine rd_sfld ?_
  | with_reducible refine rd_ilist ?_
  | with_reducible refine rd_itup ?_
  | with_reducible refine rd_rng1 ?_
  | with_reducible refine rd_enum ?_
  | with_reducible refine rd_enumT ?_)
local macro_rules | `(tactic| walk_at "rd") => `(tactic| repeat (walk_at "rd1"))
abbrev s__law_modes_refused : Stmt := top 26
abbrev N__law_modes_refused : List Str := ["deal", "modes", "links", "at", "bad", "wrong"]
theorem sc__law_modes_refused : FnScope N__law_modes_refused ["deal", "modes", "links"] (defScope s__law_modes_refused) := ⟨rfl, rfl, rfl, by decide +kernel, rfl, by decide +kernel, by decide +kernel⟩
abbrev s__law_links_refused : Stmt := top 27
abbrev N__law_links_refused : List Str := ["deal", "modes", "links", "many", "at", "site", "some", "one", "other", "wrong"]
theorem sc__law_links_refused : FnScope N__law_links_refused ["deal", "modes", "links"] (defScope s__law_links_refused) := ⟨rfl, rfl, rfl, by decide +kernel, rfl, by decide +kernel, by decide +kernel⟩
abbrev s__law_fifth_right : Stmt := top 28
abbrev N__law_fifth_right : List Str := ["deal", "order", "hub", "other", "four", "spot", "links", "modes", "more", "turn"]
theorem sc__law_fifth_right : FnScope N__law_fifth_right ["deal"] (defScope s__law_fifth_right) := ⟨rfl, rfl, rfl, by decide +kernel, rfl, by decide +kernel, by decide +kernel⟩
def qM : Str := (envOfC "_law_modes_refused" (defScope s__law_modes_refused) 0 0 .none).qual ++ "<lambda>"
def qL : Str := (envOfC "_law_links_refused" (defScope s__law_links_refused) 0 0 .none).qual ++ "<lambda>"
def qR : Str := (envOfC "_law_fifth_right" (defScope s__law_fifth_right) 0 0 .none).qual ++ "<lambda>"
def T3 (tM tL tR : Addr) : List (Addr × Str) := [(tM, qM), (tL, qL), (tR, qR)]
/-- the makers' code objects and their tables -/
structure Tb (base : Heap) (mg : Str → Option Value) (cM tM cL tL cR tR : Addr) : Prop where
  M : TabB base mg cM tM
  L : TabB base mg cL tL
  R : TabB base mg cR tR
  ml : tM ≠ tL
  mr : tM ≠ tR
  lr : tL ≠ tR
theorem t3_cases {tM tL tR : Addr} {p : Addr × Str} (h : p ∈ T3 tM tL tR) : p = (tM, qM) ∨ p = (tL, qL) ∨ p = (tR, qR) := by
  unfold T3 at h
  simpa using h
theorem t3_uM {base : Heap} {mg : Str → Option Value} {cM tM cL tL cR tR : Addr} (B : Tb base mg cM tM cL tL cR tR) (p : Addr × Str) (hp : p ∈ T3 tM tL tR) (e : p.1 = tM) : p.2 = qM := by
  rcases t3_cases hp with rfl | rfl | rfl
  · rfl
  · exact absurd e.symm B.ml
  · exact absurd e.symm B.mr
theorem t3_uL {base : Heap} {mg : Str → Option Value} {cM tM cL tL cR tR : Addr} (B : Tb base mg cM tM cL tL cR tR) (p : Addr × Str) (hp : p ∈ T3 tM tL tR) (e : p.1 = tL) : p.2 = qL := by
  rcases t3_cases hp with rfl | rfl | rfl
  · exact absurd e B.ml
  · rfl
  · exact absurd e.symm B.lr
theorem t3_uR {base : Heap} {mg : Str → Option Value} {cM tM cL tL cR tR : Addr} (B : Tb base mg cM tM cL tL cR tR) (p : Addr × Str) (hp : p ∈ T3 tM tL tR) (e : p.1 = tR) : p.2 = qR := by
  rcases t3_cases hp with rfl | rfl | rfl
  · exact absurd e B.mr
  · exact absurd e B.lr
  · rfl
/-- a def whose code object is known -/
def DefC (K : PySem.W.Frag) (x : Str) (st : Stmt) (f c : Addr) (fd : FuncData) : Prop :=
  ∃ (oc : Value) (od : Option Addr) (kV doc pm : Value) (an : Option Addr) (ct : Value) (osl : Array (Option Value)), fd = PySem.W.fnOf x x (defArgs st) (defBody st) (defScope st) .none kV doc pm an (.ref c) ct ∧
    K.lookup f = some ⟨oc, od, .func fd, osl⟩ ∧ PySem.W.codeIn K (.ref c) x = true
theorem fk_made {K : PySem.W.Frag} {x q : Str} {st : Stmt} {f : Addr} {fd : FuncData} {c a b : Str} (F : Fun K x q st f fd)
    (h : ∀ (kV doc pm : Value) (an : Option Addr) (cdv ct : Value) (t u v : Value), bindArgs (PySem.W.fnOf x q (defArgs st) (defBody st) (defScope st) .none kV doc pm an cdv ct) ⟨[t], [(b, v), (a, u)]⟩ = pure [(c, t), (a, u), (b, v)]) :
    KBn K fd [c, a, b] 1 [b, a] (fun us ws => us ++ ws.reverse) (fun vs zs => vs ++ zs.reverse) := by
  obtain ⟨oc, od, kV, doc, pm, an, cdv, ct, osl, rfl, lk, hcd⟩ := F.ex
  refine ⟨fun s us ws _ h0 h2 => ?_, fun {vs us zs ws} r1 r2 => ?_⟩
  · match us, ws, h0, h2 with
    | [t], [v, u], _, _ => exact .of_eq (h kV doc pm an cdv ct t u v)
  · refine r1.append ?_
    clear r1
    induction r2 with
    | nil => exact .nil
    | cons q _ ih =>
      rw [List.reverse_cons, List.reverse_cons]
      exact ih.append (.cons q .nil)
theorem kb_Network {K : PySem.W.Frag} {mg : Str → Option Value} (T : TX K mg) : KBn K T.d_Network_init ["self", "modes", "links"] 1 ["links", "modes"] (fun us ws => us ++ ws.reverse) (fun vs zs => vs ++ zs.reverse) :=
  fk_made T.F_Network_init fun _ _ _ _ _ _ _ _ _ => rfl
theorem rd_dnew {σ : L2.St} {H : Hp} {Q : VK} (h : NewO H (.dK []) Q) : tDNewK σ H Q := new_of h
theorem rd_lam {T : List (Addr × Str)} {TT : (XK → Hp → VK → Prop) → Hp → VK → Prop} {t : XK → TE} {σ : L2.St} {H : Hp} {Q : VK} (hT : Tabs T H) (h : ∀ H1, ExtN H H1 → Tabs T H1 → TT (fun E H' Q' => t E σ H' Q') H1 Q) : tLam T TT t σ H Q := ⟨hT, h⟩
theorem rd_ref {C : Addr} {tl : XK → Hp → VK → Prop} {H : Hp} {Q : VK} (h : tl (Hear C Q) H (fun _ H' => Q .non H')) : TTref C tl H Q := h
theorem rd_make {C : Addr} {sp : Sp} {dvs : List V} {E : XK} {t : TA} {σ : L2.St} {H : Hp} {Q : VK} (h : t σ H fun vs H1 => ∀ x dx, H1 x = none → H1 dx = none → dx ≠ x → sp (.ref x :: (vs ++ dvs)) (made H1 C x dx) (fun v H2 => v = .non ∧ Q (.ref x) H2) E) : tMake C sp dvs E t σ H Q := h
theorem rd_makeK {C : Addr} {n m : Nat} {sp : Sp} {gV : List V → List V → List V} {E : XK} {t tk : TA} {σ : L2.St} {H : Hp} {Q : VK} (h : t σ H fun vs H1 => tk σ H1 fun zs H2 => vs.length = n ∧ zs.length = m ∧ ∀ x dx, H2 x = none → H2 dx = none → dx ≠ x →
    sp (gV (.ref x :: vs) zs) (made H2 C x dx) (fun v H3 => v = .non ∧ Q (.ref x) H3) E) : tMakeK C n m sp gV E t tk σ H Q := h
theorem told_hear {C : Addr} {H : Hp} {Q : VK} {i : Int} (h : ∀ H', Same H H' → Q (.int i) H') : Told C (Hear C Q) H i := fun H' d S hd =>
  ⟨d, .int i, rfl, rfl, upd_same, h _ (S.trans (Same.fresh hd))⟩
/-- what the law's texts keep -/
structure Wd (T : List (Addr × Str)) (p q : Addr) (H0 H : Hp) : Prop where
  d : Deal H p q
  t : Tabs T H
  k : Kp p q H0 H
theorem Wd.same {T : List (Addr × Str)} {p q : Addr} {H0 H H' : Hp} (b : Wd T p q H0 H) (s : Same H H') : Wd T p q H0 H' := ⟨b.d.same s, b.t.ext s, b.k.trans (Kp.same s)⟩
theorem Wd.fix {T : List (Addr × Str)} {p q : Addr} {H0 H H' : Hp} (b : Wd T p q H0 H) (d : Deal H' p q) (f : Fix p q H H') : Wd T p q H0 H' := ⟨d, tabs_fix b.t b.d f, b.k.trans (Kp.fix b.d f)⟩
theorem Wd.extN {T : List (Addr × Str)} {p q : Addr} {H0 H H' : Hp} (b : Wd T p q H0 H) (e : ExtN H H') (t : Tabs T H') : Wd T p q H0 H' := ⟨b.d.extN e, t, b.k.trans (Kp.extN e)⟩
theorem ExtN.lst {H H' : Hp} (e : ExtN H H') {a : Addr} {xs : List V} (h : H a = some (.lst xs)) : H' a = some (.lst xs) := e a _ h (fun ps z => nomatch z)
theorem ExtN.tup {H H' : Hp} (e : ExtN H H') {a : Addr} {xs : List V} (h : H a = some (.tup xs)) : H' a = some (.tup xs) := e a _ h (fun ps z => nomatch z)
/-! ### strange modes -/
theorem kin_bl {K : PySem.W.Frag} {H : Hp} (b : Bool) : Kin K H (.bl b) none := .oth (b1 := true) (b2 := true) (.base (.bl b)) (by decide +kernel) (by decide +kernel) rfl
theorem kin_str {K : PySem.W.Frag} {H : Hp} (x : Str) : Kin K H (.str x) none := .oth (b1 := false) (b2 := false) (.base (.str x)) (by decide +kernel) (by decide +kernel) rfl
theorem kin_non {K : PySem.W.Frag} {H : Hp} : Kin K H .non none := .oth (b1 := false) (b2 := false) (.base .non) (by decide +kernel) (by decide +kernel) rfl
theorem kin_tup {K : PySem.W.Frag} {H : Hp} {a : Addr} {xs : List V} (h : H a = some (.tup xs)) : Kin K H (.ref a) none := .oth (b1 := false) (b2 := false) (.base (.tup h)) (by decide +kernel) (by decide +kernel) rfl
theorem kin_lst {K : PySem.W.Frag} {H : Hp} {a : Addr} {xs : List V} (h : H a = some (.lst xs)) : Kin K H (.ref a) none := .oth (b1 := false) (b2 := false) (.base (.lst h)) (by decide +kernel) (by decide +kernel) rfl
/-- a mode that is none -/
def Strange (K : PySem.W.Frag) (p q : Addr) (H : Hp) (x : V) : Prop := (∃ o, (∀ H', Kin K H' x o) ∧ bel4 o = false) ∨ ∃ t, x = .ref t ∧ (H t = some (.tup [.int 0]) ∨ t ≠ p ∧ t ≠ q ∧ H t = some (.lst [.int 1]))
theorem Strange.kp {K : PySem.W.Frag} {p q : Addr} {H H' : Hp} {x : V} (h : Strange K p q H x) (k : Kp p q H H') : Strange K p q H' x := by
  rcases h with h | ⟨t, e, h | ⟨h1, h2, h3⟩⟩
  · exact .inl h
  · exact .inr ⟨t, e, .inl (k.tup h)⟩
  · exact .inr ⟨t, e, .inr ⟨h1, h2, k.ls _ _ h1 h2 h3⟩⟩
theorem Strange.kin {K : PySem.W.Frag} {p q : Addr} {H : Hp} {x : V} (h : Strange K p q H x) : ∃ o, Kin K H x o ∧ bel4 o = false := by
  rcases h with ⟨o, h, b⟩ | ⟨t, rfl, h | ⟨_, _, h⟩⟩
  · exact ⟨o, h H, b⟩
  · exact ⟨none, kin_tup h, rfl⟩
  · exact ⟨none, kin_lst h, rfl⟩
theorem paired_append {α β : Type} {F : α → β → Prop} {l l' : List α} {m m' : List β} (h : Paired F l m) (h' : Paired F l' m') : Paired F (l ++ l') (m ++ m') := by
  induction h with
  | nil => exact h'
  | cons a _ ih => exact .cons a ih
theorem bad_mid {K : PySem.W.Frag} {p q : Addr} {H : Hp} {x : V} {A B C : List Int} (h : Strange K p q H x) (hA : ∀ m ∈ A, 0 ≤ m ∧ m < 4) :
    ∃ os, Paired (Kin K H) (A.map V.int ++ [x] ++ B.map V.int ++ C.map V.int) os ∧ BadAt os A.length := by
  obtain ⟨o, k, b⟩ := h.kin
  refine ⟨A.map some ++ [o] ++ B.map some ++ C.map some, paired_append (paired_append (paired_append (kin_all K H A) (.cons k .nil)) (kin_all K H B)) (kin_all K H C), ⟨o, ?_, b⟩, fun j o' hj e => ?_⟩
  · rw [List.append_assoc, List.append_assoc, List.getElem?_append_right (by simp)]
    simp
  · rw [List.append_assoc, List.append_assoc, List.getElem?_append_left (by simpa using hj), List.getElem?_map] at e
    obtain ⟨m, hm, rfl⟩ := Option.map_eq_some_iff.mp e
    obtain ⟨h0, h1⟩ := hA m (List.mem_of_getElem? hm)
    exact bel4_of h0 h1
def spMR (tM tL tR : Addr) : Sp := fun vs H Q _ => ∃ (p q a : Addr) (z : V) (ms : List Int), vs = [.ref p, .ref a, z] ∧ Wd (T3 tM tL tR) p q H H ∧ H a = some (.lst (ms.map V.int)) ∧ a ≠ p ∧ a ≠ q ∧ ms ≠ [] ∧ ms.length ≤ 100 ∧ (∀ m ∈ ms, 0 ≤ m ∧ m < 4) ∧
  ∀ H', Wd (T3 tM tL tR) p q H H' → Q (.bl true) H'
section
variable {P : Program} {w : World} {K : PySem.W.Frag} {mg : Str → Option Value} {base : Heap} (T : TX K mg)
theorem G__law_modes_refused {cM tM cL tL cR tR : Addr} (B : Tb base mg cM tM cL tL cR tR) {CN : Addr} (IQ : IsQ K T.c_InvalidNetwork CN) (gN : mg "NetError" = some (.ref CN)) {f : Addr} {fd : FuncData} (F : DefC K "_law_modes_refused" s__law_modes_refused f cM fd) :
    FnOk P w K mg base CX0 10 f fd ["deal", "modes", "links"] (spMR tM tL tR) := by
  have bR := T.b__law_refused
  obtain ⟨oc', od', kV', doc', pm', an', cdv', ct', osl', eR, lkR, hcR⟩ := T.F__law_refused.ex
  rw [eR] at bR lkR
  obtain ⟨oc, od, kV, doc, pm, an, ct, osl, rfl, lk, hcd⟩ := F
  refine fn_of lk hcd sc__law_modes_refused (fun vs H Q E h => ?_) fun A outer s H vs Q E hr h => ⟨_, PSs.nox (pss_cons (ps_par (i := 3) (j := 4) (by rfl) sc__law_modes_refused.nd rfl rfl (by decide) rfl rfl (pa_cons (pe_call (G__law_any T) (hr.mono (by decide)) (by rfl) T.m__law_any T.F__law_any.kp T.b__law_any .nil pass0 (by exact (pa_cons (pv 0) (pa_cons (pe_op op_add (pe_callB (cr_lenK (K := K)) (by rfl) T.n_len (by decide +kernel) (by exact (pa_cons (pv 1) pa_nil))) pe_int) pa_nil)))) (pa_cons (pe_call (G__law_of T) (hr.mono (by decide)) (by rfl) T.m__law_of T.F__law_of.kp T.b__law_of .nil pass0 (by exact (pa_cons (pv 0) (pa_cons (pe_lst (pa_cons pe_int (pa_cons (pe_op op_sub pe_int pe_int) (pa_cons pe_non (pa_cons pe_bl (pa_cons pe_str (pa_cons (pe_tup (pa_cons pe_int pa_nil)) (pa_cons (pe_lst (pa_cons pe_int pa_nil)) pa_nil)))))))) pa_nil)))) pa_nil)) (by rfl)) (pss_cons (ps_set (i := 5) sc__law_modes_refused.nd rfl (.inr rfl) (pe_op op_cat (pe_op op_cat (pe_op op_cat (pe_slice (sl_listK (K := K)) (pv 1) po_none (po_some (pv 3))) (pe_lst (pa_cons (pv 4) pa_nil))) (pe_slice (sl_listK (K := K)) (pv 1) (po_some (pv 3)) po_none)) (pe_ix (ix_listK (K := K)) (pe_lst (pa_cons (pe_lst pa_nil) (pa_cons (pe_lst (pa_cons pe_int pa_nil)) pa_nil))) (pe_call (G__law_any T) (hr.mono (by decide)) (by rfl) T.m__law_any T.F__law_any.kp T.b__law_any .nil pass0 (by exact (pa_cons (pv 0) (pa_cons pe_int pa_nil)))) (fun _ _ => rfl)))) (pss_cons (ps_if (pt_cmpR op_ne (by exact (pe_lamcall (T := (T3 tM tL tR)) (TT := TTref T.c_InvalidNetwork) (Ng := ["work", "e"]) (a := "work") (k := 7) (by rfl) T.m__law_refused T.F__law_refused.kp lkR hcR bR sc__law_refused rfl (.inl rfl) (gives IQ T.E_InvalidNetwork.gC gN T.n_isinstance) B.M rfl (.head _) (t3_uM B) (hr.mono (by decide)) (show LamS (defScope s__law_modes_refused) _ from lamS_by (by decide +kernel)) rfl (fun _ _ _ _ _ => rfl) (fun A' outer' s' H' E' f' c' hr' => (pe_make T.M_Network (G_Network_init T) hr' (by rfl) T.m_Network T.b_Network_init .nil (passes_call (takes_of rfl rfl rfl rfl) fun _ _ _ _ z => z) (by exact (pa_cons (pv 5) (pa_cons (pv 2) pa_nil))))))) (pv 3) (nomark _)) (pss_one (ps_ret pe_bl)) pss_nil) (pss_cons (ps_if (pt_cmpR op_ne (by exact (pe_lamcall (T := (T3 tM tL tR)) (TT := TTref T.c_InvalidNetwork) (Ng := ["work", "e"]) (a := "work") (k := 7) (by rfl) T.m__law_refused T.F__law_refused.kp lkR hcR bR sc__law_refused rfl (.inl rfl) (gives IQ T.E_InvalidNetwork.gC gN T.n_isinstance) B.M rfl (.head _) (t3_uM B) (hr.mono (by decide)) (show LamS (defScope s__law_modes_refused) _ from lamS_by (by decide +kernel)) rfl (fun _ _ _ _ _ => rfl) (fun A' outer' s' H' E' f' c' hr' => (pe_makeK0 T.M_Network (G_Network_init T) hr' (by rfl) T.m_Network (kb_Network T) (passes_call (takes_of rfl rfl rfl rfl) fun _ _ _ _ z => z) (by exact (pk_cons pe_non (pk_cons (pe_tupleK (K := K) (by rfl) T.n_tuple (pv 5)) pk_nil))))))) (pv 3) (nomark _)) (pss_one (ps_ret pe_bl)) pss_nil) (pss_one (ps_ret (pe_cmpR op_eq (by exact (pe_lamcall (T := (T3 tM tL tR)) (TT := TTref T.c_InvalidNetwork) (Ng := ["work", "e"]) (a := "work") (k := 7) (by rfl) T.m__law_refused T.F__law_refused.kp lkR hcR bR sc__law_refused rfl (.inl rfl) (gives IQ T.E_InvalidNetwork.gC gN T.n_isinstance) B.M rfl (.head _) (t3_uM B) (hr.mono (by decide)) (show LamS (defScope s__law_modes_refused) _ from lamS_by (by decide +kernel)) rfl (fun _ _ _ _ _ => rfl) (fun A' outer' s' H' E' f' c' hr' => (pe_make T.M_Network (G_Network_init T) hr' (by rfl) T.m_Network T.b_Network_init .nil (passes_call (takes_of rfl rfl rfl rfl) fun _ _ _ _ z => z) (by exact (pa_cons (pe_call (G__law_of T) (hr'.mono (by decide)) (by rfl) T.m__law_of T.F__law_of.kp T.b__law_of .nil pass0 (by exact (pa_cons (pv 0) (pa_cons (pe_lst (pa_cons pe_non (pa_cons (pe_tup pa_nil) (pa_cons (pe_lst pa_nil) (pa_cons pe_int (pa_cons pe_str (pa_cons pe_dnewK (pa_cons pe_bl pa_nil)))))))) pa_nil)))) (pa_cons (pe_lst (pa_cons (pe_tup (pa_cons pe_int (pa_cons pe_int pa_nil))) pa_nil)) pa_nil))))))) pe_int (nomark _)))))))), ?_⟩
  · obtain ⟨p, q, a, z, ms, rfl, _⟩ := h
    rfl
  · obtain ⟨p, q, a, z, ms, rfl, W, ha, ap, aq, m0, ml, mb, hQ⟩ := h
    walk_at "rd"
    refine rd_len ha ?_
    rw [List.length_map]
    walk_at "rd"
    refine ⟨p, q, _, rfl, W.d, by omega, by omega, fun H1 i d1 f1 i0 i1 => ?_⟩
    have W1 := W.fix d1 f1
    have ha1 := f1 _ _ ap aq ha
    walk_at "rd"
    intro t H2 t0 S2 ht
    walk_at "rd"
    intro u H3 u0 S3 hu
    walk_at "rd"
    intro b H4 b0 S4 hb
    have W2 := W1.same S2
    have W3 := W2.same S3
    have W4 := W3.same S4
    have un := W2.d.nes u0
    have bn := W3.d.nes b0
    walk_at "rd"
    refine ⟨p, q, b, _, rfl, W4.d, bn.1, bn.2, hb, by show 0 < 7; decide, by show 7 < 1000; decide, fun H5 x hx d5 f5 => ?_⟩
    have W5 := W4.fix d5 f5
    have ha5 := f5 _ _ ap aq (S4 _ _ (S3 _ _ (S2 _ _ ha1)))
    have st5 : Strange K p q H5 x := by
      have k5 : Kp p q H4 H5 := Kp.fix W4.d f5
      have ht4 := S4 _ _ (S3 _ _ ht)
      have hu4 := S4 _ _ hu
      simp only [List.mem_cons, List.not_mem_nil, or_false] at hx
      rcases hx with h | h | h | h | h | h | h <;> subst h
      · exact .inl ⟨some 4, fun _ => .int 4, by decide⟩
      · exact .inl ⟨some (0 - 1), fun _ => .int _, by decide⟩
      · exact .inl ⟨none, fun _ => kin_non, rfl⟩
      · exact .inl ⟨none, fun _ => kin_bl _, rfl⟩
      · exact .inl ⟨none, fun _ => kin_str _, rfl⟩
      · exact .inr ⟨t, rfl, .inl (k5.tup ht4)⟩
      · exact .inr ⟨u, rfl, .inr ⟨un.1, un.2, k5.ls _ _ un.1 un.2 hu4⟩⟩
    clear hx hb bn hu un ht W1 W2 W3 W4 d1 f1 ha1 d5 f5
    walk_at "rd"
    refine rd_slL ha5 ?_
    rw [cut_take _ i0 (by rw [List.length_map]; omega), ← List.map_take]
    intro c1 H6 c10 S6 hc1
    walk_at "rd"
    intro c2 H7 c20 S7 hc2
    refine rd_cat (S7 _ _ hc1) hc2 (by rw [List.length_map, List.length_take]; show _ + 1 ≤ _; omega) ?_
    intro c3 H8 c30 S8 hc3
    have ha8 := S8 _ _ (S7 _ _ (S6 _ _ ha5))
    walk_at "rd"
    refine rd_slL ha8 ?_
    rw [cut_drop _ i0 (by rw [List.length_map]; omega), ← List.map_drop]
    intro c4 H9 c40 S9 hc4
    refine rd_cat (S9 _ _ hc3) hc4 (by simp; omega) ?_
    intro c5 H10 c50 S10 hc5
    have S510 := ((((S6.trans S7).trans S8).trans S9).trans S10)
    have W10 := W5.same S510
    have n5 := (W5.same (((S6.trans S7).trans S8).trans S9)).d.nes c50
    walk_at "rd"
    intro c6 H11 c60 S11 hc6
    walk_at "rd"
    intro c7 H12 c70 S12 hc7
    walk_at "rd"
    intro c8 H13 c80 S13 hc8
    have W11 := W10.same S11
    have W12 := W11.same S12
    have W13 := W12.same S13
    have n6 := W10.d.nes c60
    have n7 := W11.d.nes c70
    have n8 := W12.d.nes c80
    walk_at "rd"
    refine ⟨p, q, 2, rfl, W13.d, by decide, by decide, fun H14 j d14 f14 j0 j2 => ?_⟩
    have W14 := W13.fix d14 f14
    have hc8' := f14 _ _ n8.1 n8.2 hc8
    obtain ⟨c, tl, hat, hc, ltl⟩ : ∃ (c : Addr) (tl : List Int), atI [V.ref c6, V.ref c7] j = some (.ref c) ∧ H14 c = some (.lst (tl.map V.int)) ∧ tl.length ≤ 1 := by
      have hj : j = 0 ∨ j = 1 := by omega
      rcases hj with rfl | rfl
      · exact ⟨c6, [], rfl, f14 _ _ n6.1 n6.2 (S13 _ _ (S12 _ _ hc6)), Nat.zero_le _⟩
      · exact ⟨c7, [9], rfl, f14 _ _ n7.1 n7.2 (S13 _ _ hc7), Nat.le_refl _⟩
    have hc5' := f14 _ _ n5.1 n5.2 (S13 _ _ (S12 _ _ (S11 _ _ hc5)))
    refine rd_ixL hc8' hat ?_
    refine rd_cat hc5' hc (by simp; omega) ?_
    intro wl H15 wl0 S15 hw
    have W15 := W14.same S15
    have nw := W14.d.nes wl0
    have st15 : Strange K p q H15 x := st5.kp ((Kp.same S510).trans ((Kp.same ((S11.trans S12).trans S13)).trans ((Kp.fix W13.d f14).trans (Kp.same S15))))
    clear hc5' hc hat W14 hc8' f14 d14 W13 W12 W11 W10 n6 n7 n8 hc8 hc7 hc6 hc5 hc4 hc3 hc2 hc1 ha8 ha5 st5 W5
    have len : (ms.take i.toNat).length = i.toNat := by rw [List.length_take]; omega
    have bad : ∀ {H' : Hp}, Kp p q H15 H' → ∃ os, Paired (Kin K H') ((ms.take i.toNat).map V.int ++ [x] ++ (ms.drop i.toNat).map V.int ++ tl.map V.int) os ∧ BadAt os i.toNat := fun k => by
      have := bad_mid (A := ms.take i.toNat) (B := ms.drop i.toNat) (C := tl) (st15.kp k) (fun m hm => mb m (List.mem_of_mem_take hm))
      rwa [len] at this
    have ei : ((i.toNat : Nat) : Int) = i := by omega
    walk_at "rd"
    refine rd_lam W15.t fun H16 x16 T16 => ?_
    have W16 := W15.extN x16 T16
    refine rd_ref (rd_make ?_)
    walk_at "rd"
    intro s1 dx1 hs1 hd1 _
    obtain ⟨os, hos, hbad⟩ := bad (Kp.extN x16)
    refine net_badM hs1 hd1 (.lst (ExtN.lst x16 hw)) (.inr ⟨_, os, rfl, hos, hbad⟩) (told_hear fun H17 S17 => ?_)
    have W17 := W16.same S17
    walk_at "rd"
    refine iteF' (by rw [ei]; simp) ?_
    walk_at "rd"
    have hw17 := S17 _ _ (ExtN.lst x16 hw)
    have k17 : Kp p q H15 H17 := (Kp.extN x16).trans (Kp.same S17)
    refine rd_lam W17.t fun H18 x18 T18 => ?_
    have W18 := W17.extN x18 T18
    refine rd_ref (rd_makeK ?_)
    walk_at "rd"
    refine rd_tupL (ExtN.lst x18 hw17) ?_
    intro tp H19 tp0 S19 htp
    refine ⟨rfl, rfl, fun s2 dx2 hs2 hd2 _ => ?_⟩
    obtain ⟨os, hos, hbad⟩ := bad ((k17.trans (Kp.extN x18)).trans (Kp.same S19))
    refine net_badM hs2 hd2 (.tup (Tup.of htp)) (.inr ⟨_, os, rfl, hos, hbad⟩) (told_hear fun H20 S20 => ?_)
    have W20 := (W18.same S19).same S20
    walk_at "rd"
    refine iteF' (by rw [ei]; simp) ?_
    walk_at "rd"
    clear W15 W16 W17 W18 bad st15 hos hbad
    refine rd_lam W20.t fun H21 x21 T21 => ?_
    have W21 := W20.extN x21 T21
    refine rd_ref (rd_make ?_)
    walk_at "rd"
    intro e1 H22 e10 S22 he1
    walk_at "rd"
    intro e2 H23 e20 S23 he2
    walk_at "rd"
    refine rd_dnew ?_
    intro e3 H24 e30 S24 he3
    walk_at "rd"
    intro e4 H25 e40 S25 he4
    have W22 := W21.same S22
    have W23 := W22.same S23
    have W24 := W23.same S24
    have W25 := W24.same S25
    have m2 := W22.d.nes e20
    have m4 := W24.d.nes e40
    walk_at "rd"
    refine ⟨p, q, e4, _, rfl, W25.d, m4.1, m4.2, he4, by show 0 < 7; decide, by show 7 < 1000; decide, fun H26 y hy d26 f26 => ?_⟩
    have W26 := W25.fix d26 f26
    have k26 : Kp p q H25 H26 := Kp.fix W25.d f26
    obtain ⟨o, hyo, ho⟩ : ∃ o, (∀ {H' : Hp}, Same H26 H' → SqX K H' y o) ∧ (o = none ∨ o = some []) := by
      have h1 := k26.tup (S25 _ _ (S24 _ _ (S23 _ _ he1)))
      have h2 := k26.ls _ _ m2.1 m2.2 (S25 _ _ (S24 _ _ he2))
      have h3 := k26.nl _ _ (S25 _ _ he3) (fun _ e => nomatch e) (fun _ e => nomatch e)
      simp only [List.mem_cons, List.not_mem_nil, or_false] at hy
      rcases hy with h | h | h | h | h | h | h <;> subst h
      · exact ⟨none, fun _ => .oth (.base .non) (by decide +kernel) (by decide +kernel), .inl rfl⟩
      · exact ⟨some [], fun S => .tup (Tup.of (S _ _ h1)), .inr rfl⟩
      · exact ⟨some [], fun S => .lst (S _ _ h2), .inr rfl⟩
      · exact ⟨none, fun _ => .oth (.base (.int 3)) (by decide +kernel) (by decide +kernel), .inl rfl⟩
      · exact ⟨none, fun _ => .oth (.base (.str _)) (by decide +kernel) (by decide +kernel), .inl rfl⟩
      · exact ⟨none, fun S => .oth (.base (.dK (S _ _ h3))) (by decide +kernel) (by decide +kernel), .inl rfl⟩
      · exact ⟨none, fun _ => .oth (.base (.bl true)) (by decide +kernel) (by decide +kernel), .inl rfl⟩
    walk_at "rd"
    intro g1 H27 g10 S27 hg1
    walk_at "rd"
    intro g2 H28 g20 S28 hg2
    walk_at "rd"
    intro s3 dx3 hs3 hd3 _
    refine net_badM (i := 0) hs3 hd3 (hyo (S27.trans S28)) (.inl ⟨ho, rfl⟩) (told_hear fun H29 S29 => ?_)
    have W29 := ((W26.same S27).same S28).same S29
    walk_at "rd"
    exact hQ H29 W29
end
end K04

namespace K04
open PySem PySem.Spec PyProof.Rows L2 KX LamX
local macro_rules | `(tactic| walk_at "rd1") => `(tactic| first
  | with_reducible refine rd_seq ?_
  | with_reducible refine rd_for ?_
  | with_reducible refine rd_lc ?_
  | with_reducible refine rd_asg ?_
  | ((with_reducible refine' rd_var ?rdv ?_); (case rdv => exact rfl))
  | with_reducible refine rd_c ?_
  | with_reducible refine rd_op ?_
  | with_reducible refine rd_un ?_
  | with_reducible refine rd_cons ?_
  | with_reducible refine rd_nil ?_
  | with_reducible refine rd_call ?_
  | with_reducible refine rd_cb ?_
  | with_reducible refine rd_tB ?_
  | with_reducible refine rd_test ?_
  | with_reducible refine rd_bl ?_
  | with_reducible refine rd_rI0 ?_
  | with_reducible refine rd_eqI ?_
  | with_reducible refine rd_neI ?_
  | with_reducible refine rd_rU ?_
  | with_reducible refine rd_name ?_
  | with_reducible refine rd_ifs ?_
  | with_reducible refine rd_and ?_
  | with_reducible refine rd_or ?_
  | with_reducible refine rd_not ?_
  | with_reducible refine rd_yes ?_
  | with_reducible refine rd_andV ?_
  | with_reducible refine rd_orV ?_
  | with_reducible refine rd_notV ?_
  | with_reducible refine rd_if ?_
  | with_reducible refine rd_isN ?_
  | with_reducible refine rd_iT ?_
  | with_reducible refine rd_iF ?_
  | with_reducible refine rd_ret ?_
  | with_reducible refine rd_retN ?_
  | with_reducible refine rd_drop ?_
  | with_reducible refine rd_next ?_
  | with_reducible refine rd_cont ?_
  | with_reducible refine rd_brk ?_
  | with_reducible refine rd_nx ?_
  | with_reducible refine rd_rt ?_
  | with_reducible refine rd_ct ?_
  | with_reducible refine rd_bk ?_
  | with_reducible refine rd_par ?_
  | with_reducible refine rd_par3 ?_
  | with_reducible refine rd_par2 ?_
  | with_reducible refine rd_par33 ?_
  | with_reducible refine rd_gcons ?_
  | with_reducible refine rd_gnil ?_
  | with_reducible refine rd_sub ?_
  | with_reducible refine rd_tup ?_
  | with_reducible refine rd_lst ?_
  | ((with_reducible refine rd_tupT ?hl ?_); (case hl => exact Nat.le_of_ble_eq_true rfl))
  | ((with_reducible refine rd_lstT ?hl ?_); (case hl => exact Nat.le_of_ble_eq_true rfl))
  | with_reducible refine rd_bm ?_
  | with_reducible refine rd_bm0 ?_
  | with_reducible refine rd_sl ?_
  | with_reducible refine rd_noP ?_
  | with_reducible refine rd_part ?_
  | with_reducible refine rd_int ?_
  | with_reducible refine rd_int1 ?_
  | with_reducible refine rd_fld ?_
  | with_reducible refine rd_then ?_
  | with_reducible refine rd_raise ?_
  | with_reducible refine rd_one ?_
  | with_reducible refine rd_sfld ?_
  | with_reducible refine rd_ilist ?_
  | with_reducible refine rd_itup ?_
  | with_reducible refine rd_rng1 ?_
  | with_reducible refine rd_enum ?_
  | with_reducible refine rd_enumT ?_)
local macro_rules | `(tactic| walk_at "rd") => `(tactic| repeat (walk_at "rd1"))
/-- an entry of the links that cannot be, behind those of Lt -/
def Wl (K : PySem.W.Frag) (p q : Addr) (n : Nat) (Lt : List (Int × Int)) (H : Hp) (x : V) : Prop := ∃ e, (∀ H', Kp p q H H' → LkIs K H' n x e) ∧ (e = none ∨ ∃ a b, e = some (a, b) ∧ ((a, b) ∈ Lt ∨ (b, a) ∈ Lt))
theorem Wl.kp {K : PySem.W.Frag} {p q : Addr} {n : Nat} {Lt : List (Int × Int)} {H H' : Hp} {x : V} (h : Wl K p q n Lt H x) (k : Kp p q H H') : Wl K p q n Lt H' x := by
  obtain ⟨e, h1, h2⟩ := h
  exact ⟨e, fun H2 k2 => h1 H2 (k.trans k2), h2⟩
theorem norm_id {L : List (Int × Int)} (h : ∀ e ∈ L, e.1 < e.2) : L.map norm = L := by
  induction L with
  | nil => rfl
  | cons e L ih =>
    rw [List.map_cons, ih fun x hx => h x (List.mem_cons_of_mem _ hx)]
    have := h e List.mem_cons_self
    unfold norm
    rw [if_pos (by omega)]
theorem norm_good {n d : Nat} {L : List (Int × Int)} (g : Good n d L) : (L.map norm).Perm L := by
  rw [norm_id fun e he => (g.rng e he).2.1]
theorem lk_pairs {K : PySem.W.Frag} {H : Hp} {n : Nat} {ps : List Addr} {L : List (Int × Int)} (h : Paired (PairAt H) ps L) (r : ∀ e ∈ L, 0 ≤ e.1 ∧ e.1 < e.2 ∧ e.2 < n) : Paired (LkIs K H n) (ps.map V.ref) (L.map some) := by
  induction h with
  | nil => exact .nil
  | @cons p e ps L a _ ih =>
    obtain ⟨h1, h2, h3⟩ := r e List.mem_cons_self
    exact .cons (.ok (.tup (Tup.of a)) h1 (by omega) (by omega) h3 (by omega)) (ih fun x hx => r x (List.mem_cons_of_mem _ hx))
theorem paired_take {α β : Type} {F : α → β → Prop} {l : List α} {m : List β} (h : Paired F l m) : ∀ i, Paired F (l.take i) (m.take i) := by
  induction h with
  | nil => intro i; cases i <;> exact .nil
  | cons a _ ih =>
    intro i
    cases i with
    | zero => exact .nil
    | succ i => exact .cons a (ih i)
theorem paired_drop {α β : Type} {F : α → β → Prop} {l : List α} {m : List β} (h : Paired F l m) : ∀ i, Paired F (l.drop i) (m.drop i) := by
  induction h with
  | nil => intro i; cases i <;> exact .nil
  | cons a t ih =>
    intro i
    cases i with
    | zero => exact .cons a t
    | succ i => exact ih i
theorem badL_mid {n : Nat} {L : List (Int × Int)} (g : Good n 4 L) {i : Nat} (hi : i ≤ L.length) {e : Option (Int × Int)} (he : e = none ∨ ∃ a b, e = some (a, b) ∧ ((a, b) ∈ L.take i ∨ (b, a) ∈ L.take i)) (rest : List (Option (Int × Int))) :
    BadL n ((L.take i).map some ++ [e] ++ rest) i := by
  obtain ⟨R, hR, hl, hr⟩ := runs_nb (runs_of g (norm_good g)) i hi
  have len : ((L.take i).map some).length = i := by rw [List.length_map, List.length_take]; omega
  refine ⟨e, R, ?_, ?_, ?_⟩
  · rw [List.append_assoc, List.getElem?_append_right (by omega), len]
    simp
  · rw [List.append_assoc, List.take_append_of_le_length (by omega), List.take_of_length_le (by omega)]
    exact hR
  · rcases he with rfl | ⟨a, b, rfl, h⟩
    · rfl
    · have hm : ∀ x y : Int, (x, y) ∈ L.take i → 0 ≤ x ∧ x < y ∧ y < n := fun x y h => g.rng _ (List.mem_of_mem_take h)
      have : b ∈ rowOf R a := by
        rw [hr a (by rcases h with h | h <;> (have := hm _ _ h; omega)) (by rcases h with h | h <;> (have := hm _ _ h; omega))]
        exact nb_mem (by rcases h with h | h <;> (have := hm _ _ h; omega)) h
      show (!decide (b ∈ rowOf R a) && (decide ((rowOf R a).length < 4) && decide ((rowOf R b).length < 4))) = false
      rw [decide_eq_true this]; rfl
theorem cut_two (xs : List V) : ∃ k, k ≤ 2 ∧ cutV xs none (some 2) = xs.take k := by
  by_cases h : 2 ≤ xs.length
  · exact ⟨2, Nat.le_refl _, cut_take xs (by decide) (by omega)⟩
  · refine ⟨xs.length, by omega, ?_⟩
    unfold cutV
    have e : HT.sIx xs.length xs.length (some (2 : Int)) = min 2 xs.length := HT.sIx_nat (n := xs.length) xs.length 2
    rw [HT.sIx_none, e]
    have : min 2 xs.length = xs.length := by omega
    rw [this]
    simp
def spLR (tM tL tR : Addr) : Sp := fun vs H Q _ => ∃ (p q a l : Addr) (ms : List Int) (ps : List Addr) (L : List (Int × Int)), vs = [.ref p, .ref a, .ref l] ∧ Wd (T3 tM tL tR) p q H H ∧ H a = some (.lst (ms.map V.int)) ∧ a ≠ p ∧ a ≠ q ∧ ms ≠ [] ∧ ms.length ≤ 100 ∧ (∀ m ∈ ms, 0 ≤ m ∧ m < 4) ∧
  H l = some (.lst (ps.map V.ref)) ∧ l ≠ p ∧ l ≠ q ∧ Paired (PairAt H) ps L ∧ Good ms.length 4 L ∧ L.length ≤ 1000 ∧ ∀ H', Wd (T3 tM tL tR) p q H H' → Q (.bl true) H'
section
variable {P : Program} {w : World} {K : PySem.W.Frag} {mg : Str → Option Value} {base : Heap} (T : TX K mg)
theorem G__law_links_refused {cM tM cL tL cR tR : Addr} (B : Tb base mg cM tM cL tL cR tR) {CN : Addr} (IQ : IsQ K T.c_InvalidNetwork CN) (gN : mg "NetError" = some (.ref CN)) {f : Addr} {fd : FuncData} (F : DefC K "_law_links_refused" s__law_links_refused f cL fd) :
    FnOk P w K mg base CX0 10 f fd ["deal", "modes", "links"] (spLR tM tL tR) := by
  have bR := T.b__law_refused
  obtain ⟨oc', od', kV', doc', pm', an', cdv', ct', osl', eR, lkR, hcR⟩ := T.F__law_refused.ex
  rw [eR] at bR lkR
  obtain ⟨oc, od, kV, doc, pm, an, ct, osl, rfl, lk, hcd⟩ := F
  refine fn_of lk hcd sc__law_links_refused (fun vs H Q E h => ?_) fun A outer s H vs Q E hr h => ⟨_, PSs.nox (pss_cons (ps_par (i := 3) (j := 4) (by rfl) sc__law_links_refused.nd rfl rfl (by decide) rfl rfl (pa_cons (pe_callB (cr_lenK (K := K)) (by rfl) T.n_len (by decide +kernel) (by exact (pa_cons (pv 1) pa_nil))) (pa_cons (pe_call (G__law_any T) (hr.mono (by decide)) (by rfl) T.m__law_any T.F__law_any.kp T.b__law_any .nil pass0 (by exact (pa_cons (pv 0) (pa_cons (pe_op op_add (pe_callB (cr_lenK (K := K)) (by rfl) T.n_len (by decide +kernel) (by exact (pa_cons (pv 2) pa_nil))) pe_int) pa_nil)))) pa_nil)) (by rfl)) (pss_cons (ps_set (i := 5) sc__law_links_refused.nd rfl (.inl rfl) (pe_call (G__law_any T) (hr.mono (by decide)) (by rfl) T.m__law_any T.F__law_any.kp T.b__law_any .nil pass0 (by exact (pa_cons (pv 0) (pa_cons (pv 3) pa_nil))))) (pss_cons (ps_set (i := 6) sc__law_links_refused.nd rfl (.inl rfl) (pe_lst (pa_cons (pe_tup (pa_cons (pv 5) (pa_cons (pv 5) pa_nil))) (pa_cons (pe_tup (pa_cons (pv 5) (pa_cons (pv 3) pa_nil))) (pa_cons (pe_tup (pa_cons (pe_op op_sub pe_int pe_int) (pa_cons (pv 5) pa_nil))) (pa_cons (pe_tup (pa_cons (pv 5) pa_nil)) (pa_cons (pe_tup (pa_cons (pv 5) (pa_cons (pv 5) (pa_cons (pv 5) pa_nil)))) (pa_cons pe_non (pa_cons pe_int (pa_cons pe_str (pa_cons (pe_tup (pa_cons (pv 5) (pa_cons pe_non pa_nil))) (pa_cons (pe_tup (pa_cons pe_bl (pa_cons (pv 3) pa_nil))) (pa_cons (pe_lst (pa_cons (pv 5) (pa_cons (pv 5) pa_nil))) pa_nil))))))))))))) (pss_cons (ps_for PassesOwn.never rfl (pi_listK (K := K) (pe_slice (sl_listK (K := K)) (pe_slice (sl_listK (K := K)) (pv 2) po_none (po_some (pv 4))) po_none (po_some pe_int))) (pg_tupK (K := K) (n := 2) (by rfl) (pgs_cons (pg_name (i := 7) sc__law_links_refused.nd rfl (.inl rfl)) (pgs_cons (pg_name (i := 8) sc__law_links_refused.nd rfl (.inl rfl)) pgs_nil))) (pss_one (ps_set (i := 6) sc__law_links_refused.nd rfl (.inl rfl) (pe_op op_cat (pv 6) (pe_lst (pa_cons (pe_tup (pa_cons (pv 7) (pa_cons (pv 8) pa_nil))) (pa_cons (pe_lst (pa_cons (pv 8) (pa_cons (pv 7) pa_nil))) pa_nil))))))) (pss_cons (ps_set (i := 9) sc__law_links_refused.nd rfl (.inr rfl) (pe_op op_cat (pe_op op_cat (pe_op op_cat (pe_slice (sl_listK (K := K)) (pv 2) po_none (po_some (pv 4))) (pe_lst (pa_cons (pe_call (G__law_of T) (hr.mono (by decide)) (by rfl) T.m__law_of T.F__law_of.kp T.b__law_of .nil pass0 (by exact (pa_cons (pv 0) (pa_cons (pv 6) pa_nil)))) pa_nil))) (pe_slice (sl_listK (K := K)) (pv 2) (po_some (pv 4)) po_none)) (pe_ix (ix_listK (K := K)) (pe_lst (pa_cons (pe_lst pa_nil) (pa_cons (pe_lst (pa_cons (pe_tup (pa_cons pe_int (pa_cons pe_int pa_nil))) pa_nil)) pa_nil))) (pe_call (G__law_any T) (hr.mono (by decide)) (by rfl) T.m__law_any T.F__law_any.kp T.b__law_any .nil pass0 (by exact (pa_cons (pv 0) (pa_cons pe_int pa_nil)))) (fun _ _ => rfl)))) (pss_cons (ps_if (pt_cmpR op_ne (by exact (pe_lamcall (T := (T3 tM tL tR)) (TT := TTref T.c_InvalidNetwork) (Ng := ["work", "e"]) (a := "work") (k := 7) (by rfl) T.m__law_refused T.F__law_refused.kp lkR hcR bR sc__law_refused rfl (.inl rfl) (gives IQ T.E_InvalidNetwork.gC gN T.n_isinstance) B.L rfl (.tail _ (.head _)) (t3_uL B) (hr.mono (by decide)) (show LamS (defScope s__law_links_refused) _ from lamS_by (by decide +kernel)) rfl (fun _ _ _ _ _ => rfl) (fun A' outer' s' H' E' f' c' hr' => (pe_make T.M_Network (G_Network_init T) hr' (by rfl) T.m_Network T.b_Network_init .nil (passes_call (takes_of rfl rfl rfl rfl) fun _ _ _ _ z => z) (by exact (pa_cons (pv 1) (pa_cons (pv 9) pa_nil))))))) (pe_op op_add (pv 3) (pv 4)) (nomark _)) (pss_one (ps_ret pe_bl)) pss_nil) (pss_cons (ps_if (pt_cmpR op_ne (by exact (pe_lamcall (T := (T3 tM tL tR)) (TT := TTref T.c_InvalidNetwork) (Ng := ["work", "e"]) (a := "work") (k := 7) (by rfl) T.m__law_refused T.F__law_refused.kp lkR hcR bR sc__law_refused rfl (.inl rfl) (gives IQ T.E_InvalidNetwork.gC gN T.n_isinstance) B.L rfl (.tail _ (.head _)) (t3_uL B) (hr.mono (by decide)) (show LamS (defScope s__law_links_refused) _ from lamS_by (by decide +kernel)) rfl (fun _ _ _ _ _ => rfl) (fun A' outer' s' H' E' f' c' hr' => (pe_make T.M_Network (G_Network_init T) hr' (by rfl) T.m_Network T.b_Network_init .nil (passes_call (takes_of rfl rfl rfl rfl) fun _ _ _ _ z => z) (by exact (pa_cons (pe_tupleK (K := K) (by rfl) T.n_tuple (pv 1)) (pa_cons (pe_tupleK (K := K) (by rfl) T.n_tuple (pv 9)) pa_nil))))))) (pe_op op_add (pv 3) (pv 4)) (nomark _)) (pss_one (ps_ret pe_bl)) pss_nil) (pss_one (ps_ret (pe_cmpR op_eq (by exact (pe_lamcall (T := (T3 tM tL tR)) (TT := TTref T.c_InvalidNetwork) (Ng := ["work", "e"]) (a := "work") (k := 7) (by rfl) T.m__law_refused T.F__law_refused.kp lkR hcR bR sc__law_refused rfl (.inl rfl) (gives IQ T.E_InvalidNetwork.gC gN T.n_isinstance) B.L rfl (.tail _ (.head _)) (t3_uL B) (hr.mono (by decide)) (show LamS (defScope s__law_links_refused) _ from lamS_by (by decide +kernel)) rfl (fun _ _ _ _ _ => rfl) (fun A' outer' s' H' E' f' c' hr' => (pe_make T.M_Network (G_Network_init T) hr' (by rfl) T.m_Network T.b_Network_init .nil (passes_call (takes_of rfl rfl rfl rfl) fun _ _ _ _ z => z) (by exact (pa_cons (pv 1) (pa_cons (pe_call (G__law_of T) (hr'.mono (by decide)) (by rfl) T.m__law_of T.F__law_of.kp T.b__law_of .nil pass0 (by exact (pa_cons (pv 0) (pa_cons (pe_lst (pa_cons pe_non (pa_cons pe_int (pa_cons pe_str (pa_cons pe_dnewK (pa_cons pe_bl pa_nil)))))) pa_nil)))) pa_nil))))))) (pv 3) (nomark _))))))))))), ?_⟩
  · obtain ⟨p, q, a, l, ms, ps, L, rfl, _⟩ := h
    rfl
  · obtain ⟨p, q, a, l, ms, ps, L, rfl, W, ha, ap, aq, m0, ml, mb, hl, lp, lq, hps, g, lL, hQ⟩ := h
    have lps := paired_len hps
    have mpos : 0 < ms.length := List.length_pos_iff.mpr m0
    walk_at "rd"
    refine rd_len ha ?_
    rw [List.length_map]
    walk_at "rd"
    refine rd_len hl ?_
    rw [List.length_map]
    walk_at "rd"
    refine ⟨p, q, _, rfl, W.d, by omega, by omega, fun H1 i d1 f1 i0 i1 => ?_⟩
    have W1 := W.fix d1 f1
    walk_at "rd"
    refine ⟨p, q, _, rfl, W1.d, by omega, by omega, fun H2 st d2 f2 st0 stn => ?_⟩
    have W2 := W1.fix d2 f2
    have k12 := (Kp.fix W.d f1).trans (Kp.fix W1.d f2)
    have ha2 := f2 _ _ ap aq (f1 _ _ ap aq ha)
    have hl2 := f2 _ _ lp lq (f1 _ _ lp lq hl)
    have hps2 := k12.pairs hps
    walk_at "rd"
    intro u1 H3 z1 S3 h1
    walk_at "rd"
    intro u2 H4 z2 S4 h2
    walk_at "rd"
    intro u3 H5 z3 S5 h3
    walk_at "rd"
    intro u4 H6 z4 S6 h4
    walk_at "rd"
    intro u5 H7 z5 S7 h5
    walk_at "rd"
    intro u6 H8 z6 S8 h6
    walk_at "rd"
    intro u7 H9 z7 S9 h7
    walk_at "rd"
    intro u8 H10 z8 S10 h8
    walk_at "rd"
    intro s0 H11 z9 S11 h9
    have S29 : Same H2 H9 := (((((S3.trans S4).trans S5).trans S6).trans S7).trans S8).trans S9
    have W9 := W2.same S29
    have n8 := W9.d.nes z8
    have W10 := W9.same S10
    have n9 := W10.d.nes z9
    have W11 := W10.same S11
    have S211 := (S29.trans S10).trans S11
    have in' : i.toNat ≤ L.length := by omega
    have h1' := (((((((S4.trans S5).trans S6).trans S7).trans S8).trans S9).trans S10).trans S11) _ _ h1
    have h2' := ((((((S5.trans S6).trans S7).trans S8).trans S9).trans S10).trans S11) _ _ h2
    have h3' := (((((S6.trans S7).trans S8).trans S9).trans S10).trans S11) _ _ h3
    have h4' := ((((S7.trans S8).trans S9).trans S10).trans S11) _ _ h4
    have h5' := (((S8.trans S9).trans S10).trans S11) _ _ h5
    have h6' := ((S9.trans S10).trans S11) _ _ h6
    have h7' := (S10.trans S11) _ _ h7
    have h8' := S11 _ _ h8
    have wl0 : ∀ x ∈ [V.ref u1, V.ref u2, V.ref u3, V.ref u4, V.ref u5, V.non, V.int 3, V.str ("01" : Str), V.ref u6, V.ref u7, V.ref u8], Wl K p q ms.length (L.take i.toNat) H11 x := fun x hx => by
      simp only [List.mem_cons, List.not_mem_nil, or_false] at hx
      rcases hx with h | h | h | h | h | h | h | h | h | h | h <;> subst h
      · exact ⟨none, fun H' k => .eq (.tup (Tup.of (k.tup h1'))) st0 stn, .inl rfl⟩
      · exact ⟨none, fun H' k => .snd (.tup (Tup.of (k.tup h2'))) (.int st) (.int _) (by show (decide (0 ≤ ((ms.length : Nat) : Int)) && decide (((ms.length : Nat) : Int) < (ms.length : Nat))) = false; simp), .inl rfl⟩
      · exact ⟨none, fun H' k => .fst (.tup (Tup.of (k.tup h3'))) (.int _) rfl, .inl rfl⟩
      · exact ⟨none, fun H' k => .len (.tup (Tup.of (k.tup h4'))) (by simp), .inl rfl⟩
      · exact ⟨none, fun H' k => .len (.tup (Tup.of (k.tup h5'))) (by simp), .inl rfl⟩
      · exact ⟨none, fun H' k => .seq (.oth (.base .non) (by decide +kernel) (by decide +kernel)), .inl rfl⟩
      · exact ⟨none, fun H' k => .seq (.oth (.base (.int 3)) (by decide +kernel) (by decide +kernel)), .inl rfl⟩
      · exact ⟨none, fun H' k => .seq (.oth (.base (.str _)) (by decide +kernel) (by decide +kernel)), .inl rfl⟩
      · exact ⟨none, fun H' k => .snd (.tup (Tup.of (k.tup h6'))) (.int st) kin_non rfl, .inl rfl⟩
      · exact ⟨none, fun H' k => .fst (.tup (Tup.of (k.tup h7'))) (kin_bl true) rfl, .inl rfl⟩
      · exact ⟨none, fun H' k => .eq (.lst (k.ls _ _ n8.1 n8.2 h8')) st0 stn, .inl rfl⟩
    clear h1 h2 h3 h4 h5 h6 h7 h8 h1' h2' h3' h4' h5' h6' h7' h8' S3 S4 S5 S6 S7 S8 S9 S10 S11 S29 n8 z1 z2 z3 z4 z5 z6 z7 z8 z9 W9 W10
    have hl11 := S211 _ _ hl2
    have ha11 := S211 _ _ ha2
    have hps11 := pairs_same hps2 S211
    clear hl2 ha2 hps2 S211 k12
    walk_at "rd"
    refine rd_slL hl11 ?_
    rw [cut_take _ i0 (by rw [List.length_map]; omega), ← List.map_take]
    intro c1 H12 c10 S12 hc1
    walk_at "rd"
    refine rd_slL hc1 ?_
    obtain ⟨k2, k2l, ek⟩ := cut_two ((ps.take i.toNat).map V.ref)
    rw [ek, ← List.map_take]
    intro c2 H13 c20 S13 hc2
    have W13 := (W11.same S12).same S13
    have h9' := S13 _ _ (S12 _ _ h9)
    have hl13 := S13 _ _ (S12 _ _ hl11)
    have ha13 := S13 _ _ (S12 _ _ ha11)
    have hps13 := pairs_same hps11 (S12.trans S13)
    have wl13 := fun x hx => (wl0 x hx).kp (Kp.same (S12.trans S13))
    clear h9 hl11 ha11 hps11 wl0 W11 S12 S13 hc1 W2 d2 f2 W1 d1 f1
    have hpt : Paired (PairAt H13) ((ps.take i.toNat).take k2) ((L.take i.toNat).take k2) := paired_take (paired_take hps13 _) _
    refine ⟨c2, rfl, ⟨_, SqL.of hc2⟩, ?_⟩
    refine for_list (xs := ((ps.take i.toNat).take k2).map V.ref) (fun j σ H' => Same H13 H' ∧ ∃ sm ss o7 o8 o9, σ = [some (.ref p), some (.ref a), some (.ref l), some (.int (ms.length : Nat)), some (.int i), some (.int st), some (.ref sm), o7, o8, o9] ∧
      H' sm = some (.lst ss) ∧ ss.length = 11 + 2 * j ∧ sm ≠ p ∧ sm ≠ q ∧ ∀ x ∈ ss, Wl K p q ms.length (L.take i.toNat) H' x) ⟨Same.refl _, s0, _, _, _, _, rfl, h9', rfl, n9.1, n9.2, wl13⟩ (fun j σ H' _ pv => SqL.of (pv.1 _ _ hc2)) (fun j x σ H' hx pv => ?_) (fun σ H' pv => ?_)
    · obtain ⟨S14, sm, ss, o7, o8, o9, rfl, hsm, lss, sp1, sq1, wss⟩ := pv
      rw [List.getElem?_map] at hx
      obtain ⟨t, ht, rfl⟩ := Option.map_eq_some_iff.mp hx
      obtain ⟨e, he, hte⟩ := paired_get hpt ht
      have he2 : e ∈ L.take i.toNat := List.mem_of_mem_take (List.mem_of_getElem? he)
      obtain ⟨e1, e2, e3⟩ := g.rng e (List.mem_of_mem_take he2)
      have hte14 : H' t = some (.tup [.int e.1, .int e.2]) := S14 _ _ hte
      have jk : j < k2 := by
        have := (List.getElem?_eq_some_iff.mp ht).1
        rw [List.length_take] at this; omega
      refine rd_gtup (Tup.of hte14) rfl ?_
      walk_at "rd"
      intro v1 H15 v10 S15 hv1
      walk_at "rd"
      intro v2 H16 v20 S16 hv2
      walk_at "rd"
      intro v3 H17 v30 S17 hv3
      have W15 := (W13.same S14).same S15
      have nv2 := W15.d.nes v20
      refine rd_cat (S17 _ _ (S16 _ _ (S15 _ _ hsm))) hv3 (by rw [lss]; show _ + 2 ≤ _; omega) ?_
      intro v4 H18 v40 S18 hv4
      have nv4 := ((W15.same S16).same S17).d.nes v40
      walk_at "rd"
      have S1318 := (((S14.trans S15).trans S16).trans S17).trans S18
      refine ⟨S1318, v4, _, _, _, _, rfl, hv4, by rw [List.length_append, lss]; show _ + 2 = _; omega, nv4.1, nv4.2, fun x hx => ?_⟩
      rcases List.mem_append.mp hx with z | z
      · exact (wss x z).kp (Kp.same (((S15.trans S16).trans S17).trans S18))
      · simp only [List.mem_cons, List.not_mem_nil, or_false] at z
        rcases z with z | z <;> subst z
        · exact ⟨some (e.1, e.2), fun H' k => .ok (.tup (Tup.of (k.tup (S18 _ _ (S17 _ _ (S16 _ _ hv1)))))) e1 (by omega) (by omega) e3 (by omega), .inr ⟨_, _, rfl, .inl he2⟩⟩
        · exact ⟨some (e.2, e.1), fun H' k => .ok (.lst (k.ls _ _ nv2.1 nv2.2 (S18 _ _ (S17 _ _ hv2)))) (by omega) e3 e1 (by omega) (by omega), .inr ⟨_, _, rfl, .inr he2⟩⟩
    · obtain ⟨S14, sm, ss, o7, o8, o9, rfl, hsm, lss, sp1, sq1, wss⟩ := pv
      rw [List.length_map] at lss
      have lt2 : ((ps.take i.toNat).take k2).length ≤ 2 := by rw [List.length_take]; omega
      have W14 := W13.same S14
      have hl14 := S14 _ _ hl13
      have ha14 := S14 _ _ ha13
      have hps14 := pairs_same hps13 S14
      clear hl13 ha13 hps13 hpt wl13 h9' S14 W13 hc2
      walk_at "rd"
      refine rd_slL hl14 ?_
      rw [cut_take _ i0 (by rw [List.length_map]; omega), ← List.map_take]
      intro c1 H15 c10 S15 hc1
      have W15 := W14.same S15
      have nc1 := W14.d.nes c10
      walk_at "rd"
      refine ⟨p, q, sm, ss, rfl, W15.d, sp1, sq1, S15 _ _ hsm, by omega, by omega, fun H16 x hx d16 f16 => ?_⟩
      have W16 := W15.fix d16 f16
      obtain ⟨e, hxe, he⟩ := (wss x hx).kp ((Kp.same S15).trans (Kp.fix W15.d f16))
      have hc1' := f16 _ _ nc1.1 nc1.2 hc1
      have hl16 := f16 _ _ lp lq (S15 _ _ hl14)
      have ha16 := f16 _ _ ap aq (S15 _ _ ha14)
      have hps16 := (Kp.fix W15.d f16).pairs (pairs_same hps14 S15)
      clear hl14 ha14 hps14 hx wss hsm d16 f16 W14 W15 hc1
      walk_at "rd"
      intro c2 H17 c20 S17 hc2
      refine rd_cat (S17 _ _ hc1') hc2 (by rw [List.length_map, List.length_take]; show _ + 1 ≤ _; omega) ?_
      intro c3 H18 c30 S18 hc3
      walk_at "rd"
      refine rd_slL (S18 _ _ (S17 _ _ hl16)) ?_
      rw [cut_drop _ i0 (by rw [List.length_map]; omega), ← List.map_drop]
      intro c4 H19 c40 S19 hc4
      refine rd_cat (S19 _ _ hc3) hc4 (by simp; omega) ?_
      intro c5 H20 c50 S20 hc5
      have n5 := (((W16.same S17).same S18).same S19).d.nes c50
      have W20 := (((W16.same S17).same S18).same S19).same S20
      walk_at "rd"
      intro c6 H21 c60 S21 hc6
      walk_at "rd"
      intro r1 H22 r10 S22 hr1
      walk_at "rd"
      intro c7 H23 c70 S23 hc7
      walk_at "rd"
      intro c8 H24 c80 S24 hc8
      have W21 := W20.same S21
      have W22 := W21.same S22
      have W23 := W22.same S23
      have W24 := W23.same S24
      have n6 := W20.d.nes c60
      have n7 := W22.d.nes c70
      have n8 := W23.d.nes c80
      walk_at "rd"
      refine ⟨p, q, 2, rfl, W24.d, by decide, by decide, fun H25 j d25 f25 j0 j2 => ?_⟩
      have W25 := W24.fix d25 f25
      have hr25 := (Kp.fix W24.d f25).tup (S24 _ _ (S23 _ _ hr1))
      obtain ⟨c, tl, te, hat, hc, ltl, htl⟩ : ∃ (c : Addr) (tl : List V) (te : List (Option (Int × Int))), atI [V.ref c6, V.ref c7] j = some (.ref c) ∧ H25 c = some (.lst tl) ∧ tl.length ≤ 1 ∧ ∀ H', Kp p q H25 H' → Paired (LkIs K H' ms.length) tl te := by
        have hj : j = 0 ∨ j = 1 := by omega
        rcases hj with rfl | rfl
        · exact ⟨c6, [], [], rfl, f25 _ _ n6.1 n6.2 (S24 _ _ (S23 _ _ (S22 _ _ hc6))), Nat.zero_le _, fun _ _ => .nil⟩
        · exact ⟨c7, [.ref r1], [none], rfl, f25 _ _ n7.1 n7.2 (S24 _ _ hc7), Nat.le_refl _, fun H' k => .cons (.eq (.tup (Tup.of (k.tup hr25))) (by omega) (by omega)) .nil⟩
      have hc5' := f25 _ _ n5.1 n5.2 (S24 _ _ (S23 _ _ (S22 _ _ (S21 _ _ hc5))))
      have hc8' := f25 _ _ n8.1 n8.2 hc8
      refine rd_ixL hc8' hat ?_
      refine rd_cat hc5' hc (by simp; omega) ?_
      intro wl H26 wl0 S26 hw
      have W26 := W25.same S26
      have nw := W25.d.nes wl0
      have k1626 : Kp p q H16 H26 := (Kp.same ((((((((S17.trans S18).trans S19).trans S20).trans S21).trans S22).trans S23).trans S24))).trans ((Kp.fix W24.d f25).trans (Kp.same S26))
      have k2526 : Kp p q H25 H26 := Kp.same S26
      have ha26 := k1626.ls _ _ ap aq ha16
      have hps26 := k1626.pairs hps16
      have len : (ps.take i.toNat).length = i.toNat := by rw [List.length_take]; omega
      have bad : ∀ {H' : Hp}, Kp p q H26 H' → ∃ es, Paired (LkIs K H' ms.length) ((ps.take i.toNat).map V.ref ++ [x] ++ (ps.drop i.toNat).map V.ref ++ tl) es ∧ BadL ms.length es i.toNat := fun k => by
        refine ⟨(L.take i.toNat).map some ++ [e] ++ ((L.drop i.toNat).map some ++ te), ?_, badL_mid g in' he _⟩
        have := paired_append (paired_append (paired_append (lk_pairs (paired_take (k.pairs hps26) i.toNat) fun z hz => g.rng z (List.mem_of_mem_take hz)) (.cons (hxe _ (k1626.trans k)) .nil))
          (lk_pairs (paired_drop (k.pairs hps26) i.toNat) fun z hz => g.rng z (List.mem_of_mem_drop hz))) (htl _ (k2526.trans k))
        rw [List.append_assoc _ _ te] at this
        exact this
      have ei : ((i.toNat : Nat) : Int) = i := by omega
      clear hc5' hc8' hc hat W25 f25 d25 W24 W23 W22 W21 W20 n5 n6 n7 n8 hc8 hc7 hc6 hr1 hr25 hc5 hc4 hc3 hc2 hc1' hl16 ha16
      walk_at "rd"
      refine rd_lam W26.t fun H27 x27 T27 => ?_
      have W27 := W26.extN x27 T27
      have k27 : Kp p q H26 H27 := Kp.extN x27
      refine rd_ref (rd_make ?_)
      walk_at "rd"
      intro s1 dx1 hs1 hd1 _
      obtain ⟨es, hes, hbad⟩ := bad k27
      refine net_badL hs1 hd1 (.lst (k27.ls _ _ ap aq ha26)) m0 (by omega) mb (.lst (k27.ls _ _ nw.1 nw.2 hw)) (.inr ⟨_, es, rfl, hes, hbad⟩) (told_hear fun H28 S28 => ?_)
      have W28 := W27.same S28
      have k28 := k27.trans (Kp.same (p := p) (q := q) S28)
      walk_at "rd"
      refine iteF' (by rw [ei]; simp) ?_
      walk_at "rd"
      refine rd_lam W28.t fun H29 x29 T29 => ?_
      have W29 := W28.extN x29 T29
      have k29 := k28.trans (Kp.extN (p := p) (q := q) x29)
      refine rd_ref (rd_make ?_)
      walk_at "rd"
      refine rd_tupL (k29.ls _ _ ap aq ha26) ?_
      intro g1 H30 g10 S30 hg1
      walk_at "rd"
      have k30 := k29.trans (Kp.same (p := p) (q := q) S30)
      refine rd_tupL (k30.ls _ _ nw.1 nw.2 hw) ?_
      intro g2 H31 g20 S31 hg2
      have k31 := k30.trans (Kp.same (p := p) (q := q) S31)
      walk_at "rd"
      intro s2 dx2 hs2 hd2 _
      obtain ⟨es, hes, hbad⟩ := bad k31
      refine net_badL hs2 hd2 (.tup (Tup.of (S31 _ _ hg1))) m0 (by omega) mb (.tup (Tup.of hg2)) (.inr ⟨_, es, rfl, hes, hbad⟩) (told_hear fun H32 S32 => ?_)
      have W32 := ((W29.same S30).same S31).same S32
      have k32 := k31.trans (Kp.same (p := p) (q := q) S32)
      walk_at "rd"
      refine iteF' (by rw [ei]; simp) ?_
      walk_at "rd"
      refine rd_lam W32.t fun H33 x33 T33 => ?_
      have W33 := W32.extN x33 T33
      have k33 := k32.trans (Kp.extN (p := p) (q := q) x33)
      refine rd_ref (rd_make ?_)
      walk_at "rd"
      refine rd_dnew ?_
      intro e3 H34 e30 S34 he3
      walk_at "rd"
      intro e4 H35 e40 S35 he4
      have W34 := W33.same S34
      have W35 := W34.same S35
      have m4 := W34.d.nes e40
      walk_at "rd"
      refine ⟨p, q, e4, _, rfl, W35.d, m4.1, m4.2, he4, by show 0 < 5; decide, by show 5 < 1000; decide, fun H36 y hy d36 f36 => ?_⟩
      have W36 := W35.fix d36 f36
      have k36 : Kp p q H35 H36 := Kp.fix W35.d f36
      have ha36 := (((k33.trans (Kp.same S34)).trans (Kp.same S35)).trans k36).ls _ _ ap aq ha26
      have hyo : SqX K H36 y none := by
        have h3 := k36.nl _ _ (S35 _ _ he3) (fun _ e => nomatch e) (fun _ e => nomatch e)
        simp only [List.mem_cons, List.not_mem_nil, or_false] at hy
        rcases hy with h | h | h | h | h <;> subst h
        · exact .oth (.base .non) (by decide +kernel) (by decide +kernel)
        · exact .oth (.base (.int 3)) (by decide +kernel) (by decide +kernel)
        · exact .oth (.base (.str _)) (by decide +kernel) (by decide +kernel)
        · exact .oth (.base (.dK h3)) (by decide +kernel) (by decide +kernel)
        · exact .oth (.base (.bl false)) (by decide +kernel) (by decide +kernel)
      walk_at "rd"
      intro s3 dx3 hs3 hd3 _
      refine net_badL (i := 0) hs3 hd3 (.lst ha36) m0 (by omega) mb hyo (.inl ⟨rfl, rfl⟩) (told_hear fun H37 S37 => ?_)
      have W37 := W36.same S37
      walk_at "rd"
      have ez : decide (((ms.length : Nat) : Int) + ((0 : Nat) : Int) = (ms.length : Nat)) = true := decide_eq_true (by omega)
      rw [ez]
      exact hQ H37 W37
end
end K04

namespace K04
open PySem PySem.Spec PyProof.Rows L2 KX LamX
local macro_rules | `(tactic| walk_at "rd1") => `(tactic| first
  | with_reducible refine rd_seq ?_
  | with_reducible refine rd_for ?_
  | with_reducible refine rd_lc ?_
  | with_reducible refine rd_asg ?_
  | ((with_reducible refine' rd_var ?rdv ?_); (case rdv => exact rfl))
  | with_reducible refine rd_c ?_
  | with_reducible refine rd_op ?_
  | with_reducible refine rd_un ?_
  | with_reducible refine rd_cons ?_
  | with_reducible refine rd_nil ?_
  | with_reducible refine rd_call ?_
  | with_reducible refine rd_cb ?_
  | with_reducible refine rd_tB ?_
  | with_reducible refine rd_test ?_
  | with_reducible refine rd_bl ?_
  | with_reducible refine rd_rI0 ?_
  | with_reducible refine rd_eqI ?_
  | with_reducible refine rd_neI ?_
  | with_reducible refine rd_rU ?_
  | with_reducible refine rd_name ?_
  | with_reducible refine rd_ifs ?_
  | with_reducible refine rd_and ?_
  | with_reducible refine rd_or ?_
  | with_reducible refine rd_not ?_
  | with_reducible refine rd_yes ?_
  | with_reducible refine rd_andV ?_
  | with_reducible refine rd_orV ?_
  | with_reducible refine rd_notV ?_
  | with_reducible refine rd_if ?_
  | with_reducible refine rd_isN ?_
  | with_reducible refine rd_iT ?_
  | with_reducible refine rd_iF ?_
  | with_reducible refine rd_ret ?_
  | with_reducible refine rd_retN ?_
  | with_reducible refine rd_drop ?_
  | with_reducible refine rd_next ?_
  | with_reducible refine rd_cont ?_
  | with_reducible refine rd_brk ?_
  | with_reducible refine rd_nx ?_
  | with_reducible refine rd_rt ?_
  | with_reducible refine rd_ct ?_
  | with_reducible refine rd_bk ?_
  | with_reducible refine rd_par ?_
  | with_reducible refine rd_par3 ?_
  | with_reducible refine rd_par2 ?_
  | with_reducible refine rd_par33 ?_
  | with_reducible refine rd_gcons ?_
  | with_reducible refine rd_gnil ?_
  | with_reducible refine rd_sub ?_
  | with_reducible refine rd_tup ?_
  | with_reducible refine rd_lst ?_
  | ((with_reducible refine rd_tupT ?hl ?_); (case hl => exact Nat.le_of_ble_eq_true rfl))
  | ((with_reducible refine rd_lstT ?hl ?_); (case hl => exact Nat.le_of_ble_eq_true rfl))
  | with_reducible refine rd_bm ?_
  | with_reducible refine rd_bm0 ?_
  | with_reducible refine rd_sl ?_
  | with_reducible refine rd_noP ?_
  | with_reducible refine rd_part ?_
  | with_reducible refine rd_int ?_
  | with_reducible refine rd_int1 ?_
  | with_reducible refine rd_fld ?_
  | with_reducible refine rd_then ?_
  | with_reducible refine rd_raise ?_
  | with_reducible refine rd_one ?_
  | with_reducible refine rd_sfld ?_
  | with_reducible refine rd_ilist ?_
  | with_reducible refine rd_itup ?_
  | with_reducible refine rd_rng1 ?_
  | with_reducible refine rd_enum ?_
  | with_reducible refine rd_enumT ?_)
local macro_rules | `(tactic| walk_at "rd") => `(tactic| repeat (walk_at "rd1"))
/-! ### stars -/
theorem lex_ins (e : Int × Int) : ∀ L : List (Int × Int), L.Pairwise lexlt → e ∉ L → ∃ L' : List (Int × Int), L'.Perm (e :: L) ∧ L'.Pairwise lexlt
  | [], _, _ => ⟨[e], List.Perm.refl _, by simp⟩
  | x :: L, h, n => by
    obtain ⟨h1, h2⟩ := List.pairwise_cons.mp h
    have nx : e ≠ x := fun z => n (by rw [z]; exact List.mem_cons_self)
    by_cases c : lexlt e x
    · refine ⟨e :: x :: L, List.Perm.refl _, List.pairwise_cons.mpr ⟨fun y hy => ?_, h⟩⟩
      rcases List.mem_cons.mp hy with z | z
      · rw [z]; exact c
      · have := h1 y z
        unfold lexlt at c this ⊢
        omega
    · obtain ⟨L', p, s⟩ := lex_ins e L h2 fun z => n (List.mem_cons_of_mem _ z)
      refine ⟨x :: L', (p.cons x).trans (List.Perm.swap e x L), List.pairwise_cons.mpr ⟨fun y hy => ?_, s⟩⟩
      rcases List.mem_cons.mp (p.mem_iff.mp hy) with z | z
      · rw [z]
        obtain ⟨e1, e2⟩ := e
        obtain ⟨x1, x2⟩ := x
        have : ¬ (e1 = x1 ∧ e2 = x2) := fun ⟨a, b⟩ => nx (by rw [a, b])
        unfold lexlt at c ⊢
        simp only at c ⊢
        omega
      · exact h1 y z
theorem lex_ex : ∀ M : List (Int × Int), M.Nodup → ∃ L : List (Int × Int), L.Perm M ∧ L.Pairwise lexlt
  | [], _ => ⟨[], List.Perm.refl _, .nil⟩
  | e :: M, h => by
    obtain ⟨h1, h2⟩ := List.nodup_cons.mp h
    obtain ⟨L, p, s⟩ := lex_ex M h2
    obtain ⟨L', p', s'⟩ := lex_ins e L s fun z => h1 (p.mem_iff.mp z)
    exact ⟨L', p'.trans (p.cons e), s'⟩
theorem norm_ne {h b c : Int} (n : b ≠ c) : norm (h, b) ≠ norm (h, c) := fun z => by
  rcases norm_inj z with ⟨_, y⟩ | ⟨x, y⟩ <;> omega
theorem inc_star {h b s : Int} (n : s ≠ h) : inc s (norm (h, b)) = decide (b = s) := by
  rw [inc_norm]
  unfold inc
  have : decide (h = s) = false := decide_eq_false fun z => n z.symm
  show (decide (h = s) || decide (b = s)) = _
  rw [this, Bool.false_or]
/-- how many links of a star meet a site -/
theorem star_deg (h s : Int) : ∀ bs : List Int, bs.Nodup → ((bs.map fun b => norm (h, b)).filter (inc s)).length ≤ if s = h then bs.length else if s ∈ bs then 1 else 0
  | [], _ => by simp
  | b :: bs, nd => by
    obtain ⟨n1, n2⟩ := List.nodup_cons.mp nd
    have ih := star_deg h s bs n2
    by_cases c : s = h
    · rw [if_pos c] at ih ⊢
      rw [List.map_cons]
      have : ((norm (h, b) :: bs.map fun b => norm (h, b)).filter (inc s)).length ≤ ((bs.map fun b => norm (h, b)).filter (inc s)).length + 1 := by
        rw [List.filter_cons]
        split <;> simp
      simp only [List.length_cons]
      omega
    · rw [if_neg c] at ih ⊢
      rw [List.map_cons, List.filter_cons, inc_star c]
      by_cases z : b = s
      · rw [if_pos (decide_eq_true z), if_pos (by rw [z]; exact List.mem_cons_self)]
        rw [if_neg (by rw [← z]; exact n1)] at ih
        simp only [List.length_cons]
        omega
      · rw [if_neg (by simpa using z)]
        by_cases y : s ∈ bs
        · rw [if_pos (List.mem_cons_of_mem _ y)]
          rwa [if_pos y] at ih
        · rw [if_neg y] at ih
          omega
theorem star_good {n d : Nat} {h : Int} {bs : List Int} (nd : bs.Nodup) (h0 : 0 ≤ h) (h1 : h < n) (hb : ∀ b ∈ bs, 0 ≤ b ∧ b < n ∧ b ≠ h) (hd : bs.length ≤ d) (d1 : 1 ≤ d) : Good n d (bs.map fun b => norm (h, b)) := by
  refine ⟨fun e he => ?_, ?_, fun s => ?_⟩
  · obtain ⟨b, hm, rfl⟩ := List.mem_map.mp he
    obtain ⟨b0, b1, bn⟩ := hb b hm
    unfold norm
    split <;> (simp only at *; omega)
  · clear hd
    induction bs with
    | nil => exact .nil
    | cons b bs ih =>
      obtain ⟨n1, n2⟩ := List.nodup_cons.mp nd
      refine List.nodup_cons.mpr ⟨fun z => ?_, ih n2 fun x hx => hb x (List.mem_cons_of_mem _ hx)⟩
      obtain ⟨c, hc, e⟩ := List.mem_map.mp z
      exact norm_ne (fun y => n1 (by rw [← y]; exact hc)) e
  · have := star_deg h s bs nd
    split at this
    · omega
    · split at this <;> omega
theorem Good.more {n d : Nat} {L : List (Int × Int)} {a b : Int} (g : Good n d L) (a0 : 0 ≤ a) (ab : a ≠ b) (a1 : a < n) (b0 : 0 ≤ b) (b1 : b < n) (nm : norm (a, b) ∉ L) (da : (L.filter (inc a)).length < d) (db : (L.filter (inc b)).length < d) : Good n d (L ++ [norm (a, b)]) := by
  refine ⟨fun e he => ?_, ?_, fun s => ?_⟩
  · rcases List.mem_append.mp he with z | z
    · exact g.rng e z
    · rw [List.mem_singleton.mp z]
      unfold norm
      split <;> (simp only at *; omega)
  · exact List.nodup_append.mpr ⟨g.nd, by simp, fun x hx y hy => by
      rw [List.mem_singleton.mp hy]
      exact fun z => nm (by rw [← z]; exact hx)⟩
  · rw [List.filter_append, List.length_append]
    have h1 := g.deg s
    by_cases c : inc s (norm (a, b)) = true
    · have e : inc s (a, b) = true := by rw [← inc_norm]; exact c
      unfold inc at e
      have : ([norm (a, b)].filter (inc s)).length ≤ 1 := List.length_filter_le _ _
      simp only [Bool.or_eq_true, decide_eq_true_eq] at e
      rcases e with e | e
      · rw [e] at da; omega
      · rw [e] at db; omega
    · have : [norm (a, b)].filter (inc s) = [] := by simp [c]
      rw [this]; simpa using h1
/-- the entries of a star -/
def Sp (h : Int) (bs : List Int) (es : List (Int × Int)) : Prop := Paired (fun b (e : Int × Int) => e = (h, b) ∨ e = (b, h)) bs es
theorem norm_swap (a b : Int) : norm (a, b) = norm (b, a) := by
  unfold norm
  by_cases h1 : a ≤ b
  · by_cases h2 : b ≤ a
    · have : a = b := by omega
      subst this; rfl
    · simp only [if_pos h1, if_neg h2]
  · have h2 : b ≤ a := by omega
    simp only [if_neg h1, if_pos h2]
theorem sp_norm {h : Int} {bs : List Int} {es : List (Int × Int)} (s : Sp h bs es) : es.map norm = bs.map fun b => norm (h, b) := by
  induction s with
  | nil => rfl
  | cons a _ ih =>
    rw [List.map_cons, List.map_cons, ih]
    rcases a with rfl | rfl
    · rfl
    · rw [norm_swap]
def unI : V → Int
  | .int i => i
  | _ => 0
theorem ints_of {ys : List V} {ns : List Int} (p : ys.Perm (ns.map V.int)) : ∃ os : List Int, ys = os.map V.int ∧ os.Perm ns := by
  have all : ∀ y ∈ ys, ∃ i, y = V.int i := fun y hy => by
    obtain ⟨i, _, rfl⟩ := List.mem_map.mp (p.mem_iff.mp hy)
    exact ⟨i, rfl⟩
  have e : (ys.map unI).map V.int = ys := by
    clear p
    induction ys with
    | nil => rfl
    | cons y ys ih =>
      obtain ⟨i, rfl⟩ := all y List.mem_cons_self
      rw [List.map_cons, List.map_cons, ih fun z hz => all z (List.mem_cons_of_mem _ hz)]
      rfl
  refine ⟨ys.map unI, e.symm, ?_⟩
  have := p.map unI
  rw [List.map_map] at this
  have f : (unI ∘ V.int) = id := rfl
  rw [f, List.map_id] at this
  exact this
/-- an entry of the links: a tuple, or a list that is neither the deal's nor l -/
def Ent (p q l : Addr) (H : Hp) (x : V) (e : Int × Int) : Prop := ∃ t, x = .ref t ∧ (H t = some (.tup [.int e.1, .int e.2]) ∨ t ≠ p ∧ t ≠ q ∧ t ≠ l ∧ H t = some (.lst [.int e.1, .int e.2]))
theorem Ent.kp {p q l : Addr} {H H' : Hp} {x : V} {e : Int × Int} (h : Ent p q l H x e) (k : Kp p q H H') : Ent p q l H' x e := by
  obtain ⟨t, rfl, h | ⟨h1, h2, h3, h4⟩⟩ := h
  · exact ⟨t, rfl, .inl (k.tup h)⟩
  · exact ⟨t, rfl, .inr ⟨h1, h2, h3, k.ls _ _ h1 h2 h4⟩⟩
theorem Ent.upd {p q l : Addr} {H : Hp} {x : V} {e : Int × Int} {xs ys : List V} (h : Ent p q l H x e) (hl : H l = some (.lst xs)) : Ent p q l (L2.upd H l (.lst ys)) x e := by
  obtain ⟨t, rfl, h | ⟨h1, h2, h3, h4⟩⟩ := h
  · refine ⟨t, rfl, .inl ?_⟩
    rw [upd_ne (fun z => by rw [z, hl] at h; cases h)]
    exact h
  · refine ⟨t, rfl, .inr ⟨h1, h2, h3, ?_⟩⟩
    rw [upd_ne h3]
    exact h4
theorem Ent.lk {K : PySem.W.Frag} {p q l : Addr} {H : Hp} {n : Nat} {x : V} {e : Int × Int} (h : Ent p q l H x e) (a0 : 0 ≤ e.1) (a1 : e.1 < n) (b0 : 0 ≤ e.2) (b1 : e.2 < n) (ne : e.1 ≠ e.2) : LkIs K H n x (some e) := by
  obtain ⟨t, rfl, h | ⟨_, _, _, h⟩⟩ := h
  · exact .ok (.tup (Tup.of h)) a0 a1 b0 b1 ne
  · exact .ok (.lst h) a0 a1 b0 b1 ne
theorem ents_lk {K : PySem.W.Frag} {p q l : Addr} {H : Hp} {n : Nat} {xs : List V} {es : List (Int × Int)} (h : Paired (Ent p q l H) xs es) (r : ∀ e ∈ es, 0 ≤ e.1 ∧ e.1 < n ∧ 0 ≤ e.2 ∧ e.2 < n ∧ e.1 ≠ e.2) : Paired (LkIs K H n) xs (es.map some) := by
  induction h with
  | nil => exact .nil
  | cons a _ ih =>
    obtain ⟨h1, h2, h3, h4, h5⟩ := r _ List.mem_cons_self
    exact .cons (a.lk h1 h2 h3 h4 h5) (ih fun x hx => r x (List.mem_cons_of_mem _ hx))
theorem Kp.put {p q a : Addr} {H0 H4 H : Hp} {o : HO} (k : Kp p q H0 H4) (n : H4 a = none) (k' : Kp p q H0 H) : Kp p q H0 (L2.upd H a o) :=
  ⟨fun b u h h1 h2 => by
    rw [upd_ne (fun z => by have := k.nl b u h h1 h2; rw [z, n] at this; cases this)]
    exact k'.nl b u h h1 h2, fun b xs h1 h2 h => by
    rw [upd_ne (fun z => by have := k.ls b xs h1 h2 h; rw [z, n] at this; cases this)]
    exact k'.ls b xs h1 h2 h⟩
theorem tabs_upd {T : List (Addr × Str)} {H : Hp} {l : Addr} {xs ys : List V} (t : Tabs T H) (hl : H l = some (.lst xs)) : Tabs T (L2.upd H l (.lst ys)) := fun z hz => by
  obtain ⟨ps, h1, h2, h3⟩ := t z hz
  refine ⟨ps, by rw [upd_ne (fun e => by rw [e, hl] at h1; cases h1)]; exact h1, h2, fun pos cv hc => ?_⟩
  obtain ⟨c, e1, e2⟩ := h3 pos cv hc
  refine ⟨c, e1, ?_⟩
  rw [upd_ne (fun e => by rw [e, hl] at e2; unfold CodeO at e2; cases e2)]
  exact e2
/-- a list made since is written -/
theorem Wd.put {T : List (Addr × Str)} {p q l : Addr} {H0 H4 H : Hp} {xs ys : List V} (W4 : Wd T p q H0 H4) (n : H4 l = none) (W : Wd T p q H0 H) (hl : H l = some (.lst xs)) : Wd T p q H0 (L2.upd H l (.lst ys)) :=
  ⟨W.d.off (W4.d.nes n).1 (W4.d.nes n).2, tabs_upd W.t hl, W4.k.put n W.k⟩
theorem paired_snoc {α β : Type} {F : α → β → Prop} {l : List α} {m : List β} {a : α} {b : β} (h : Paired F l m) (f : F a b) : Paired F (l ++ [a]) (m ++ [b]) := paired_append h (.cons f .nil)
theorem Sp.inc {h : Int} {bs : List Int} {es : List (Int × Int)} (s : Sp h bs es) : (es.filter (inc h)).length = bs.length := by
  induction s with
  | nil => rfl
  | cons a _ ih =>
    rw [List.filter_cons]
    rcases a with rfl | rfl
    · rw [if_pos (by simp [K04.inc]), List.length_cons, List.length_cons, ih]
    · rw [if_pos (by simp [K04.inc]), List.length_cons, List.length_cons, ih]
/-- a site with four neighbours gets no fifth one -/
theorem bad_full {n : Nat} {M L : List (Int × Int)} {h b : Int} {e : Int × Int} (g : Good n 4 L) (pm : (M.map norm).Perm L) (full : (M.filter (inc h)).length = 4) (h0 : 0 ≤ h) (h1 : h < n) (he : e = (h, b) ∨ e = (b, h)) (rest : List (Option (Int × Int))) :
    BadL n (M.map some ++ [some e] ++ rest) M.length := by
  obtain ⟨R, hR, hl, hr⟩ := runs_nb (runs_of g pm) M.length (Nat.le_refl _)
  rw [List.take_length] at hR hr
  have row : (rowOf R h).length = 4 := by rw [hr h h0 h1, nb_len]; exact full
  refine ⟨some e, R, ?_, ?_, ?_⟩
  · rw [List.append_assoc, List.getElem?_append_right (by simp)]
    simp
  · rw [List.append_assoc, List.take_append_of_le_length (by simp), List.take_of_length_le (by simp)]
    exact hR
  · have nl : decide ((rowOf R h).length < 4) = false := decide_eq_false (by omega)
    rcases he with rfl | rfl
    · show (!decide (b ∈ rowOf R h) && (decide ((rowOf R h).length < 4) && decide ((rowOf R b).length < 4))) = false
      rw [nl]; simp
    · show (!decide (h ∈ rowOf R b) && (decide ((rowOf R b).length < 4) && decide ((rowOf R h).length < 4))) = false
      rw [nl]; simp
def spFR (tM tL tR : Addr) : L2.Sp := fun vs H Q _ => ∃ (p q : Addr), vs = [.ref p] ∧ Wd (T3 tM tL tR) p q H H ∧ ∀ H', Wd (T3 tM tL tR) p q H H' → Q (.bl true) H'
section
variable {P : Program} {w : World} {K : PySem.W.Frag} {mg : Str → Option Value} {base : Heap} (T : TX K mg)
theorem G__law_fifth_right {cM tM cL tL cR tR : Addr} (B : Tb base mg cM tM cL tL cR tR) {CN : Addr} (IQ : IsQ K T.c_InvalidNetwork CN) (gN : mg "NetError" = some (.ref CN)) {f : Addr} {fd : FuncData} (F : DefC K "_law_fifth_right" s__law_fifth_right f cR fd) :
    FnOk P w K mg base CX0 10 f fd ["deal"] (spFR tM tL tR) := by
  have bR := T.b__law_refused
  obtain ⟨oc', od', kV', doc', pm', an', cdv', ct', osl', eR, lkR, hcR⟩ := T.F__law_refused.ex
  rw [eR] at bR lkR
  obtain ⟨oc, od, kV, doc, pm, an, ct, osl, rfl, lk, hcd⟩ := F
  refine fn_of lk hcd sc__law_fifth_right (fun vs H Q E h => ?_) fun A outer s H vs Q E hr h => ⟨_, PSs.nox (pss_cons (ps_asg (pe_tup (pa_cons (pe_call (G__law_mixed T) (hr.mono (by decide)) (by rfl) T.m__law_mixed T.F__law_mixed.kp T.b__law_mixed .nil pass0 (by exact (pa_cons (pv 0) (pa_cons (pe_lst (pa_cons pe_int (pa_cons pe_int (pa_cons pe_int (pa_cons pe_int (pa_cons pe_int (pa_cons pe_int pa_nil))))))) pa_nil)))) (pa_cons (by exact (pe_lc (own := [("turn", 9)]) (by rfl) sc__law_fifth_right.nd (pi_range1 (by rfl) T.n_range (by exact (pa_cons pe_int pa_nil))) (blkOk_by (own := [("turn", 9)]) (N := N__law_fifth_right) (sc := defScope s__law_fifth_right) (by decide +kernel)) (fun _ _ _ _ _ => (pg_name (i := 9) sc__law_fifth_right.nd rfl (.inl rfl))) (fun _ _ _ _ _ => pts_nil) (fun _ _ _ _ _ => (pe_call (G__law_any T) (hr.mono (by decide)) (by rfl) T.m__law_any T.F__law_any.kp T.b__law_any .nil pass0 (by exact (pa_cons (pv 0) (pa_cons pe_int pa_nil))))) )) pa_nil))) (pg_tupK (K := K) (n := 2) (by rfl) (pgs_cons (pg_name (i := 1) sc__law_fifth_right.nd rfl (.inl rfl)) (pgs_cons (pg_name (i := 7) sc__law_fifth_right.nd rfl (.inr rfl)) pgs_nil)))) (pss_cons (ps_asg (pe_tup (pa_cons (pe_ix (ix_listK (K := K)) (pv 1) pe_int (fun _ _ => rfl)) (pa_cons (pe_lst pa_nil) pa_nil))) (pg_tupK (K := K) (n := 2) (by rfl) (pgs_cons (pg_name (i := 2) sc__law_fifth_right.nd rfl (.inl rfl)) (pgs_cons (pg_name (i := 6) sc__law_fifth_right.nd rfl (.inr rfl)) pgs_nil)))) (pss_cons (ps_for PassesOwn.never rfl (pi_listK (K := K) (pe_slice (sl_listK (K := K)) (pv 1) (po_some pe_int) po_none)) (pg_name (i := 3) sc__law_fifth_right.nd rfl (.inl rfl)) (pss_one (ps_expr (pe_bmK (K := K) PySem.F.slot_list_append PySem.F.type_list_append mt_append (pv 6) (by exact (pa_cons (pe_ifExp (pt_cmpR op_eq (pe_call (G__law_any T) (hr.mono (by decide)) (by rfl) T.m__law_any T.F__law_any.kp T.b__law_any .nil pass0 (by exact (pa_cons (pv 0) (pa_cons pe_int pa_nil)))) pe_int (nomark _)) (pe_tup (pa_cons (pv 2) (pa_cons (pv 3) pa_nil))) (pe_lst (pa_cons (pv 3) (pa_cons (pv 2) pa_nil)))) pa_nil)))))) (pss_cons (ps_par (i := 4) (j := 5) (by rfl) sc__law_fifth_right.nd rfl rfl (by decide) rfl rfl (pa_cons (pe_make T.M_Network (G_Network_init T) (hr.mono (by decide)) (by rfl) T.m_Network T.b_Network_init .nil passL (by exact (pa_cons (pv 7) (pa_cons (pe_slice (sl_listK (K := K)) (pv 6) po_none (po_some pe_int)) pa_nil)))) (pa_cons (pe_call (G__law_any T) (hr.mono (by decide)) (by rfl) T.m__law_any T.F__law_any.kp T.b__law_any .nil pass0 (by exact (pa_cons (pv 0) (pa_cons pe_int pa_nil)))) pa_nil)) (by rfl)) (pss_cons (ps_if (PW.pt (pw_or (pt_cmpR op_ne (pe_callB (cr_lenK (K := K)) (by rfl) T.n_len (by decide +kernel) (by exact (pa_cons (pe_fldK (K := K) (pv 4)) pa_nil))) pe_int (nomark _)) (pw_or1 (pt_cmpR op_ne (by exact (pe_lamcall (T := (T3 tM tL tR)) (TT := TTref T.c_InvalidNetwork) (Ng := ["work", "e"]) (a := "work") (k := 7) (by rfl) T.m__law_refused T.F__law_refused.kp lkR hcR bR sc__law_refused rfl (.inl rfl) (gives IQ T.E_InvalidNetwork.gC gN T.n_isinstance) B.R rfl (.tail _ (.tail _ (.head _))) (t3_uR B) (hr.mono (by decide)) (show LamS (defScope s__law_fifth_right) _ from lamS_by (by decide +kernel)) rfl (fun _ _ _ _ _ => rfl) (fun A' outer' s' H' E' f' c' hr' => (pe_make T.M_Network (G_Network_init T) hr' (by rfl) T.m_Network T.b_Network_init .nil (passes_call (takes_of rfl rfl rfl rfl) fun _ _ _ _ z => z) (by exact (pa_cons (pv 7) (pa_cons (pv 6) pa_nil))))))) pe_int (nomark _))))) (pss_one (ps_ret pe_bl)) pss_nil) (pss_cons (ps_set (i := 8) sc__law_fifth_right.nd rfl (.inr rfl) (pe_op op_cat (pe_op op_cat (pe_slice (sl_listK (K := K)) (pv 6) po_none (po_some pe_int)) (pe_slice (sl_listK (K := K)) (pe_lst (pa_cons (pe_lst (pa_cons (pe_ix (ix_listK (K := K)) (pv 1) pe_int (fun _ _ => rfl)) (pa_cons (pe_ix (ix_listK (K := K)) (pv 1) pe_int (fun _ _ => rfl)) pa_nil))) (pa_cons (pe_tup (pa_cons (pe_ix (ix_listK (K := K)) (pv 1) pe_int (fun _ _ => rfl)) (pa_cons (pe_ix (ix_listK (K := K)) (pv 1) pe_int (fun _ _ => rfl)) pa_nil))) pa_nil))) (po_some (pv 5)) (po_some (pe_op op_add (pv 5) pe_int)))) (pe_slice (sl_listK (K := K)) (pv 6) (po_some pe_int) po_none))) (pss_one (ps_ret (pe_cmpR op_eq (by exact (pe_lamcall (T := (T3 tM tL tR)) (TT := TTref T.c_InvalidNetwork) (Ng := ["work", "e"]) (a := "work") (k := 7) (by rfl) T.m__law_refused T.F__law_refused.kp lkR hcR bR sc__law_refused rfl (.inl rfl) (gives IQ T.E_InvalidNetwork.gC gN T.n_isinstance) B.R rfl (.tail _ (.tail _ (.head _))) (t3_uR B) (hr.mono (by decide)) (show LamS (defScope s__law_fifth_right) _ from lamS_by (by decide +kernel)) rfl (fun _ _ _ _ _ => rfl) (fun A' outer' s' H' E' f' c' hr' => (pe_make T.M_Network (G_Network_init T) hr' (by rfl) T.m_Network T.b_Network_init .nil (passes_call (takes_of rfl rfl rfl rfl) fun _ _ _ _ z => z) (by exact (pa_cons (pv 7) (pa_cons (pv 8) pa_nil))))))) pe_int (nomark _)))))))))), ?_⟩
  · obtain ⟨p, q, rfl, _⟩ := h
    rfl
  · obtain ⟨p, q, rfl, W, hQ⟩ := h
    walk_at "rd"
    intro o0 H1 z1 S1 h1
    have W1 := W.same S1
    have n0 := W.d.nes z1
    walk_at "rd"
    refine ⟨p, q, o0, [0, 1, 2, 3, 4, 5].map V.int, rfl, W1.d, h1, fun x hx => .inl (by obtain ⟨i, _, rfl⟩ := List.mem_map.mp hx; exact ⟨i, rfl⟩), by decide, fun H2 om ys d2 f2 om0 omp omq perm hom => ?_⟩
    have W2 := W1.fix d2 f2
    obtain ⟨os, rfl, po⟩ := ints_of perm
    have lo : os.length = 6 := by rw [po.length_eq]; rfl
    have nd : os.Nodup := po.nodup_iff.mpr (by decide)
    have rg : ∀ x ∈ os, 0 ≤ x ∧ x < 6 := fun x hx => by
      have := po.mem_iff.mp hx
      simp only [List.mem_cons, List.not_mem_nil, or_false] at this
      omega
    obtain ⟨h, b1, b2, b3, b4, b5, rfl⟩ : ∃ h b1 b2 b3 b4 b5, os = [h, b1, b2, b3, b4, b5] := by
      match os, lo with
      | [h, b1, b2, b3, b4, b5], _ => exact ⟨h, b1, b2, b3, b4, b5, rfl⟩
    obtain ⟨nh, nb'⟩ := List.nodup_cons.mp nd
    clear perm po lo S1 h1 W1 d2 f2 n0 z1
    walk_at "rd"
    refine ⟨by omega, by omega, fun D hD => ?_⟩
    obtain ⟨dD, Dp, Dq⟩ := W2.d.new (o := .lst []) hD
    refine lc_range (lo := 0) (n := 6) (fun i H' => Deal H' p q ∧ Fix p q H2 H' ∧ ∃ ms : List Int, H' D = some (.lst (ms.map V.int)) ∧ ms.length = i ∧ ∀ m ∈ ms, 0 ≤ m ∧ m < 4)
      ⟨dD, Fix.new hD, [], upd_same, rfl, by simp⟩ (fun i H' hi pv => ?_) (fun H3 pv => ?_)
    · obtain ⟨d5, f5, ms, hms, lms, bms⟩ := pv
      walk_at "rd"
      refine ⟨rfl, ?_⟩
      walk_at "rd"
      refine ⟨p, q, 4, rfl, d5, by decide, by decide, fun H6 j d6 f6 j0 jk => ?_⟩
      refine ⟨_, f6 _ _ Dp Dq hms, ?_, d6.off Dp Dq, (f5.trans f6).upd hD, ms ++ [j], ?_, by simp [lms], fun m hm => ?_⟩
      · rw [List.length_map]
        exact Nat.lt_of_le_of_lt (by omega : ms.length ≤ 100) (by decide)
      · rw [upd_same]; simp
      · rcases List.mem_append.mp hm with z | z
        · exact bms m z
        · rw [List.mem_singleton.mp z]; omega
    · obtain ⟨d3, f3, ms, hms, lms, bms⟩ := pv
      have W3 := W2.fix d3 f3
      have hom3 := f3 _ _ omp omq hom
      have m0 : ms ≠ [] := fun z => by rw [z] at lms; cases lms
      clear d3 f3 hom W2 dD hD
      walk_at "rd"
      intro t H4 z4 S4 ht
      refine rd_gtup (Tup.of ht) rfl ?_
      have W4 := W3.same S4
      have hom4 := S4 _ _ hom3
      have hms4 := S4 _ _ hms
      clear ht W3 hom3 hms S4
      walk_at "rd"
      refine rd_ixL hom4 rfl ?_
      walk_at "rd"
      intro lk' H5 z5 S5 hlk
      have nlk := W4.d.nes z5
      have W5 := W4.same S5
      walk_at "rd"
      intro t2 H6 z6 S6 ht2
      refine rd_gtup (Tup.of ht2) rfl ?_
      have W6 := W5.same S6
      have hom6 := S6 _ _ (S5 _ _ hom4)
      have hms6 := S6 _ _ (S5 _ _ hms4)
      have hlk6 := S6 _ _ hlk
      have lkD : D ≠ lk' := fun z => by rw [z, z5] at hms4; cases hms4
      have lkom : om ≠ lk' := fun z => by rw [z, z5] at hom4; cases hom4
      clear ht2 W5 hlk S6
      walk_at "rd"
      refine rd_slL hom6 ?_
      rw [cut_drop _ (by decide) (by show (1 : Int) ≤ 6; decide)]
      intro c1 H7 z7 S7 hc1
      have nc1 := W6.d.nes z7
      have W7 := W6.same S7
      have hc1 : H7 c1 = some (.lst ([b1, b2, b3, b4, b5].map V.int)) := hc1
      have lkc : c1 ≠ lk' := fun z => by rw [z, hlk6] at z7; cases z7
      refine ⟨c1, rfl, ⟨_, SqL.of hc1⟩, ?_⟩
      refine for_list (xs := [b1, b2, b3, b4, b5].map V.int) (fun j σ H' => (∃ o3 o4 o5 o8 o9, σ = [some (.ref p), some (.ref om), some (.int h), o3, o4, o5, some (.ref lk'), some (.ref D), o8, o9]) ∧ Wd (T3 tM tL tR) p q H H' ∧
        (H' c1 = some (.lst ([b1, b2, b3, b4, b5].map V.int)) ∧ H' D = some (.lst (ms.map V.int)) ∧ H' om = some (.lst ([h, b1, b2, b3, b4, b5].map V.int))) ∧
        ∃ xs es, H' lk' = some (.lst xs) ∧ Paired (Ent p q lk' H') xs es ∧ Sp h ([b1, b2, b3, b4, b5].take j) es) ⟨⟨_, _, _, _, _, rfl⟩, W7, ⟨hc1, S7 _ _ hms6, S7 _ _ hom6⟩, [], [], S7 _ _ hlk6, .nil, .nil⟩
        (fun j σ H' _ pv => SqL.of pv.2.2.1.1) (fun j x σ H' hx pv => ?_) (fun σ H' pv => ?_)
      · obtain ⟨⟨o3, o4, o5, o8, o9, rfl⟩, W8, ⟨hc8, hm8, ho8⟩, xs, es, hx8, hes, hsp⟩ := pv
        rw [List.getElem?_map] at hx
        obtain ⟨b, hb, rfl⟩ := Option.map_eq_some_iff.mp hx
        have lx : xs.length ≤ 5 := by
          rw [paired_len hes, ← paired_len hsp, List.length_take]; exact Nat.min_le_right _ _
        have tk : [b1, b2, b3, b4, b5].take (j + 1) = [b1, b2, b3, b4, b5].take j ++ [b] := by rw [List.take_succ, hb]; rfl
        have put : ∀ (H9 : Hp) (u : V) (e : Int × Int), Wd (T3 tM tL tR) p q H H9 → Kp p q H' H9 → Ent p q lk' H9 u e → e = (h, b) ∨ e = (b, h) → ∀ o3 o4 o5 o8 o9, rAppend (.ref lk') [u] H9 fun _ H2 =>
            (∃ o3' o4' o5' o8' o9', [some (V.ref p), some (.ref om), some (.int h), o3, o4, o5, some (.ref lk'), some (.ref D), o8, o9] = [some (.ref p), some (.ref om), some (.int h), o3', o4', o5', some (.ref lk'), some (.ref D), o8', o9']) ∧ Wd (T3 tM tL tR) p q H H2 ∧
            (H2 c1 = some (.lst ([b1, b2, b3, b4, b5].map V.int)) ∧ H2 D = some (.lst (ms.map V.int)) ∧ H2 om = some (.lst ([h, b1, b2, b3, b4, b5].map V.int))) ∧
            ∃ xs es, H2 lk' = some (.lst xs) ∧ Paired (Ent p q lk' H2) xs es ∧ Sp h ([b1, b2, b3, b4, b5].take (j + 1)) es := fun H9 u e W9 k9 hu he o3 o4 o5 o8 o9 => by
          have hx9 := k9.ls _ _ nlk.1 nlk.2 hx8
          refine rd_app hx9 (by omega) ⟨⟨_, _, _, _, _, rfl⟩, Wd.put W4 z5 W9 hx9, ⟨?_, ?_, ?_⟩, _, es ++ [e], upd_same, ?_, ?_⟩
          · rw [upd_ne lkc]; exact k9.ls _ _ nc1.1 nc1.2 hc8
          · rw [upd_ne lkD]; exact k9.ls _ _ Dp Dq hm8
          · rw [upd_ne lkom]; exact k9.ls _ _ omp omq ho8
          · exact paired_mono (paired_snoc (paired_mono hes fun _ _ z => z.kp k9) hu) fun _ _ z => z.upd hx9
          · rw [tk]
            exact paired_snoc hsp he
        walk_at "rd"
        refine rd_ty hx8 ?_
        walk_at "rd"
        refine ⟨p, q, 2, rfl, W8.d, by decide, by decide, fun H9 i d9 f9 i0 i2 => ?_⟩
        have W9 := W8.fix d9 f9
        have k9 : Kp p q H' H9 := Kp.fix W8.d f9
        walk_at "rd"
        by_cases c : i = 0
        · refine iteT' (decide_eq_true c) ?_
          walk_at "rd"
          intro u H10 z10 S10 hu
          exact put H10 _ (h, b) (W9.same S10) (k9.trans (Kp.same S10)) ⟨u, rfl, .inl hu⟩ (.inl rfl) _ _ _ _ _
        · refine iteF' (decide_eq_false c) ?_
          walk_at "rd"
          intro u H10 z10 S10 hu
          have nu := W9.d.nes z10
          have ul : u ≠ lk' := fun z => by
            have := k9.ls _ _ nlk.1 nlk.2 hx8
            rw [← z, z10] at this; cases this
          exact put H10 _ (b, h) (W9.same S10) (k9.trans (Kp.same S10)) ⟨u, rfl, .inr ⟨nu.1, nu.2, ul, hu⟩⟩ (.inr rfl) _ _ _ _ _
      · obtain ⟨⟨o3, o4, o5, o8, o9, rfl⟩, W8, ⟨hc8, hm8, ho8⟩, xs, es, hx8, hes, hsp⟩ := pv
        have hsp : Sp h [b1, b2, b3, b4, b5] es := hsp
        clear W4 W6 W7 hom4 hms4 z5 z6 z7 hc1 hc8 hlk6 hms6 hom6
        obtain ⟨e1, e2, e3, e4, e5, rfl, r1, r2, r3, r4, r5⟩ : ∃ e1 e2 e3 e4 e5, es = [e1, e2, e3, e4, e5] ∧ (e1 = (h, b1) ∨ e1 = (b1, h)) ∧ (e2 = (h, b2) ∨ e2 = (b2, h)) ∧ (e3 = (h, b3) ∨ e3 = (b3, h)) ∧ (e4 = (h, b4) ∨ e4 = (b4, h)) ∧ (e5 = (h, b5) ∨ e5 = (b5, h)) := by
          have hsp : Paired (fun b (e : Int × Int) => e = (h, b) ∨ e = (b, h)) [b1, b2, b3, b4, b5] es := hsp
          clear hes hx8
          have inv : ∀ {b : Int} {bs : List Int} {es : List (Int × Int)}, Paired (fun b (e : Int × Int) => e = (h, b) ∨ e = (b, h)) (b :: bs) es → ∃ e es', es = e :: es' ∧ (e = (h, b) ∨ e = (b, h)) ∧ Paired (fun b (e : Int × Int) => e = (h, b) ∨ e = (b, h)) bs es' := fun h => by
            cases h with | cons a t => exact ⟨_, _, rfl, a, t⟩
          obtain ⟨e1, es, rfl, r1, hsp⟩ := inv hsp
          obtain ⟨e2, es, rfl, r2, hsp⟩ := inv hsp
          obtain ⟨e3, es, rfl, r3, hsp⟩ := inv hsp
          obtain ⟨e4, es, rfl, r4, hsp⟩ := inv hsp
          obtain ⟨e5, es, rfl, r5, hsp⟩ := inv hsp
          cases hsp
          exact ⟨_, _, _, _, _, rfl, r1, r2, r3, r4, r5⟩
        obtain ⟨x1, x2, x3, x4, x5, rfl, q1, q2, q3, q4, q5⟩ : ∃ x1 x2 x3 x4 x5, xs = [x1, x2, x3, x4, x5] ∧ Ent p q lk' H' x1 e1 ∧ Ent p q lk' H' x2 e2 ∧ Ent p q lk' H' x3 e3 ∧ Ent p q lk' H' x4 e4 ∧ Ent p q lk' H' x5 e5 := by
          clear hx8
          have inv : ∀ {e : Int × Int} {es : List (Int × Int)} {xs : List V}, Paired (Ent p q lk' H') xs (e :: es) → ∃ x xs', xs = x :: xs' ∧ Ent p q lk' H' x e ∧ Paired (Ent p q lk' H') xs' es := fun h => by
            cases h with | cons a t => exact ⟨_, _, rfl, a, t⟩
          obtain ⟨x1, xs, rfl, r1, hes⟩ := inv hes
          obtain ⟨x2, xs, rfl, r2, hes⟩ := inv hes
          obtain ⟨x3, xs, rfl, r3, hes⟩ := inv hes
          obtain ⟨x4, xs, rfl, r4, hes⟩ := inv hes
          obtain ⟨x5, xs, rfl, r5, hes⟩ := inv hes
          cases hes
          exact ⟨_, _, _, _, _, rfl, r1, r2, r3, r4, r5⟩
        have n6 : ((ms.length : Nat) : Int) = 6 := by rw [lms]; rfl
        have hb : ∀ b ∈ [b1, b2, b3, b4, b5], 0 ≤ b ∧ b < (ms.length : Nat) ∧ b ≠ h := fun b hb => by
          have := rg b (List.mem_cons_of_mem _ hb)
          exact ⟨this.1, by omega, fun z => nh (by rw [← z]; exact hb)⟩
        have h0 : 0 ≤ h ∧ h < (ms.length : Nat) := by
          have := rg h List.mem_cons_self
          omega
        have bnd : ∀ {b : Int} {e : Int × Int}, b ∈ [b1, b2, b3, b4, b5] → (e = (h, b) ∨ e = (b, h)) → 0 ≤ e.1 ∧ e.1 < (ms.length : Nat) ∧ 0 ≤ e.2 ∧ e.2 < (ms.length : Nat) ∧ e.1 ≠ e.2 := fun {b e} m r => by
          obtain ⟨a, c, d⟩ := hb b m
          rcases r with rfl | rfl
          · exact ⟨h0.1, h0.2, a, c, fun z => d z.symm⟩
          · exact ⟨a, c, h0.1, h0.2, d⟩
        have t1 := bnd (by simp) r1
        have t2 := bnd (by simp) r2
        have t3 := bnd (by simp) r3
        have t4 := bnd (by simp) r4
        have t5 := bnd (by simp) r5
        have re4 : ∀ e ∈ [e1, e2, e3, e4], 0 ≤ e.1 ∧ e.1 < (ms.length : Nat) ∧ 0 ≤ e.2 ∧ e.2 < (ms.length : Nat) ∧ e.1 ≠ e.2 := fun e he => by
          simp only [List.mem_cons, List.not_mem_nil, or_false] at he
          rcases he with rfl | rfl | rfl | rfl <;> assumption
        have sp4 : Sp h [b1, b2, b3, b4] [e1, e2, e3, e4] := .cons r1 (.cons r2 (.cons r3 (.cons r4 .nil)))
        have nd4 : [b1, b2, b3, b4].Nodup := nb'.sublist (by
          have : [b1, b2, b3, b4] = [b1, b2, b3, b4, b5].take 4 := rfl
          rw [this]; exact List.take_sublist _ _)
        have sub4 : ∀ b ∈ [b1, b2, b3, b4], b ∈ [b1, b2, b3, b4, b5] := fun b m => by
          simp only [List.mem_cons, List.not_mem_nil, or_false] at m ⊢
          rcases m with m | m | m | m <;> simp [m]
        have g4 : Good ms.length 4 ([e1, e2, e3, e4].map norm) := by
          rw [sp_norm sp4]
          exact star_good nd4 h0.1 h0.2 (fun b m => hb b (sub4 b m)) (Nat.le_refl 4) (by decide)
        obtain ⟨L, pL, sL⟩ := lex_ex _ g4.nd
        have lL : L.length = 4 := by rw [pL.length_eq]; rfl
        have ents : ∀ {H9 : Hp}, Kp p q H' H9 → Paired (Ent p q lk' H9) [x1, x2, x3, x4] [e1, e2, e3, e4] := fun k => .cons (q1.kp k) (.cons (q2.kp k) (.cons (q3.kp k) (.cons (q4.kp k) .nil)))
        have full4 : ([e1, e2, e3, e4].filter (inc h)).length = 4 := sp4.inc
        walk_at "rd"
        refine rd_make ?_
        walk_at "rd"
        refine rd_slL hx8 ?_
        rw [cut_take _ (by decide) (by show (4 : Int) ≤ 5; decide)]
        intro c2 H9 z9 S9 hc2
        have hc2 : H9 c2 = some (.lst [x1, x2, x3, x4]) := hc2
        have W9 := W8.same S9
        walk_at "rd"
        intro s1 dx1 hs1 hd1 _
        have k9 : Kp p q H' H9 := Kp.same S9
        refine net_good hs1 hd1 (.lst (S9 _ _ hm8)) m0 (by omega) bms (.lst hc2) (ents_lk (ents k9) re4) (g4.perm pL) sL pL.symm (fun H10 R10 S10 net => ⟨rfl, ?_⟩)
        have W10 := W9.same S10
        have k10 : Kp p q H' H10 := k9.trans (Kp.same S10)
        walk_at "rd"
        refine ⟨p, q, 2, rfl, W10.d, by decide, by decide, fun H11 j d11 f11 j0 j2 => ?_⟩
        have W11 := W10.fix d11 f11
        have k11 : Kp p q H' H11 := k10.trans (Kp.fix W10.d f11)
        have net11 := (Kp.fix W10.d f11).net net
        obtain ⟨dx, pm, pn, pl, qs, ps, hN, hpm, hpn, hqs, hpl, hps⟩ := net11.ob
        clear W9 W10 k10 k9 hc2 net11 net
        walk_at "rd"
        refine ⟨s1, _, dx, _, _, rfl, hN, T.C_Network, T.A_Network_links, look_links, ?_⟩
        walk_at "rd"
        refine rd_lenTup (Tup.of hpl) ?_
        walk_at "rd"
        refine iteF' (by rw [List.length_map, paired_len hps, lL]; rfl) ?_
        walk_at "rd"
        refine rd_lam W11.t fun H12 x12 T12 => ?_
        have W12 := W11.extN x12 T12
        have k12 : Kp p q H' H12 := k11.trans (Kp.extN x12)
        refine rd_ref (rd_make ?_)
        walk_at "rd"
        intro s2 dx2 hs2 hd2 _
        have L1 : Paired (LkIs K H12 ms.length) [x1, x2, x3, x4, x5] ([e1, e2, e3, e4].map some ++ [some e5] ++ []) :=
          paired_append (paired_append (ents_lk (ents k12) re4) (.cons ((q5.kp k12).lk t5.1 t5.2.1 t5.2.2.1 t5.2.2.2.1 t5.2.2.2.2) .nil)) .nil
        refine net_badL hs2 hd2 (.lst (k12.ls _ _ Dp Dq hm8)) m0 (by omega) bms (.lst (k12.ls _ _ nlk.1 nlk.2 hx8)) (.inr ⟨_, _, rfl, L1, bad_full (g4.perm pL) pL.symm full4 h0.1 h0.2 r5 []⟩) (told_hear fun H13 S13 => ?_)
        have W13 := W12.same S13
        have k13 := k12.trans (Kp.same (p := p) (q := q) S13)
        walk_at "rd"
        refine iteF' (by rw [lms]; rfl) ?_
        clear W11 k11 W12 k12 x12 T12 hN hpm hpn hqs hpl hps L1
        walk_at "rd"
        have hlk13 := k13.ls _ _ nlk.1 nlk.2 hx8
        refine rd_slL hlk13 ?_
        rw [cut_take _ (by decide) (by show (4 : Int) ≤ 5; decide)]
        intro c3 H14 z14 S14 hc3
        have hc3 : H14 c3 = some (.lst [x1, x2, x3, x4]) := hc3
        have W14 := W13.same S14
        have k14 := k13.trans (Kp.same (p := p) (q := q) S14)
        have ho14 := k14.ls _ _ omp omq ho8
        walk_at "rd"
        refine rd_ixL ho14 rfl ?_
        walk_at "rd"
        refine rd_ixL ho14 rfl ?_
        walk_at "rd"
        intro v1 H15 z15 S15 hv1
        have W15 := W14.same S15
        have nv1 := W14.d.nes z15
        have v1l : v1 ≠ lk' := fun z => by
          have := S14 _ _ hlk13
          rw [← z, z15] at this; cases this
        walk_at "rd"
        refine rd_ixL (S15 _ _ ho14) rfl ?_
        walk_at "rd"
        refine rd_ixL (S15 _ _ ho14) rfl ?_
        walk_at "rd"
        intro v2 H16 z16 S16 hv2
        walk_at "rd"
        intro v3 H17 z17 S17 hv3
        have W17 := (W15.same S16).same S17
        walk_at "rd"
        refine rd_slL hv3 ?_
        obtain ⟨v, ev, hcut, hev, rv⟩ : ∃ v ev, cutV [V.ref v1, V.ref v2] (some j) (some (j + 1)) = [v] ∧ Ent p q lk' H17 v ev ∧ (ev = (b1, b2) ∨ ev = (b2, b1)) := by
          have hj : j = 0 ∨ j = 1 := by omega
          rcases hj with rfl | rfl
          · exact ⟨.ref v1, (b1, b2), rfl, ⟨v1, rfl, .inr ⟨nv1.1, nv1.2, v1l, S17 _ _ (S16 _ _ hv1)⟩⟩, .inl rfl⟩
          · exact ⟨.ref v2, (b2, b1), rfl, ⟨v2, rfl, .inl (S17 _ _ hv2)⟩, .inr rfl⟩
        rw [hcut]
        intro c4 H18 z18 S18 hc4
        refine rd_cat (S18 _ _ (S17 _ _ (S16 _ _ (S15 _ _ hc3)))) hc4 (by show 4 + 1 ≤ _; decide) ?_
        intro c5 H19 z19 S19 hc5
        walk_at "rd"
        have k19 : Kp p q H14 H19 := Kp.same ((((S15.trans S16).trans S17).trans S18).trans S19)
        refine rd_slL (k19.ls _ _ nlk.1 nlk.2 (S14 _ _ hlk13)) ?_
        rw [cut_drop _ (by decide) (by show (4 : Int) ≤ 5; decide)]
        intro c6 H20 z20 S20 hc6
        have hc6 : H20 c6 = some (.lst [x5]) := hc6
        refine rd_cat (S20 _ _ hc5) hc6 (by show 5 + 1 ≤ _; decide) ?_
        intro c7 H21 z21 S21 hc7
        have W20 := ((W17.same S18).same S19).same S20
        have W21 := W20.same S21
        have n7 := W20.d.nes z21
        have k21 := (k14.trans k19).trans (Kp.same (p := p) (q := q) (S20.trans S21))
        have k1721 : Kp p q H17 H21 := Kp.same (((S18.trans S19).trans S20).trans S21)
        have eM : [e1, e2, e3, e4].map norm = [b1, b2, b3, b4].map fun b => norm (h, b) := sp_norm sp4
        have nev : norm ev = norm (b1, b2) := by
          rcases rv with rfl | rfl
          · rfl
          · exact norm_swap _ _
        obtain ⟨p1, p1', p1n⟩ := hb b1 (by simp)
        obtain ⟨p2, p2', p2n⟩ := hb b2 (by simp)
        have b12 : b1 ≠ b2 := fun z => (List.nodup_cons.mp nb').1 (by rw [z]; exact List.mem_cons_self)
        have dg : ∀ s : Int, s ≠ h → (([e1, e2, e3, e4].map norm).filter (inc s)).length < 4 := fun s hs => by
          rw [eM]
          have := star_deg h s [b1, b2, b3, b4] nd4
          rw [if_neg hs] at this
          split at this <;> omega
        have g5 : Good ms.length 4 ([e1, e2, e3, e4].map norm ++ [norm (b1, b2)]) := g4.more p1 b12 p1' p2 p2' (fun z => by
          rw [eM] at z
          obtain ⟨b, hb', e⟩ := List.mem_map.mp z
          rcases norm_inj e with ⟨y, _⟩ | ⟨y, _⟩
          · exact p1n y.symm
          · exact p2n y.symm) (dg b1 p1n) (dg b2 p2n)
        have eM5 : [e1, e2, e3, e4, ev].map norm = [e1, e2, e3, e4].map norm ++ [norm (b1, b2)] := by
          rw [← nev]; rfl
        rw [← eM5] at g5
        obtain ⟨L5, pL5, sL5⟩ := lex_ex _ g5.nd
        have tv : 0 ≤ ev.1 ∧ ev.1 < (ms.length : Nat) ∧ 0 ≤ ev.2 ∧ ev.2 < (ms.length : Nat) ∧ ev.1 ≠ ev.2 := by
          rcases rv with rfl | rfl
          · exact ⟨p1, p1', p2, p2', b12⟩
          · exact ⟨p2, p2', p1, p1', fun z => b12 z.symm⟩
        have full5 : ([e1, e2, e3, e4, ev].filter (inc h)).length = 4 := by
          have e5' : [e1, e2, e3, e4, ev] = [e1, e2, e3, e4] ++ [ev] := rfl
          have iv : inc h ev = false := by
            unfold inc
            rcases rv with rfl | rfl <;> simp [p1n, p2n]
          rw [e5', List.filter_append, List.length_append, full4]
          simp [iv]
        clear hc3 hv1 hv2 hv3 hc4 hc5 hc6 W13 W14 W15 W17 W20
        walk_at "rd"
        refine rd_lam W21.t fun H22 x22 T22 => ?_
        have W22 := W21.extN x22 T22
        have kx : Kp p q H21 H22 := Kp.extN x22
        have k22 : Kp p q H' H22 := k21.trans kx
        refine rd_ref (rd_make ?_)
        walk_at "rd"
        intro s3 dx3 hs3 hd3 _
        have L2 : Paired (LkIs K H22 ms.length) ([x1, x2, x3, x4] ++ [v] ++ [x5]) ([e1, e2, e3, e4, ev].map some ++ [some e5] ++ []) := by
          have := paired_append (paired_append (ents_lk (ents k22) re4) (.cons ((hev.kp (k1721.trans kx)).lk (K := K) (n := ms.length) tv.1 tv.2.1 tv.2.2.1 tv.2.2.2.1 tv.2.2.2.2) .nil)) (Paired.cons ((q5.kp k22).lk (K := K) (n := ms.length) t5.1 t5.2.1 t5.2.2.1 t5.2.2.2.1 t5.2.2.2.2) .nil)
          exact this
        refine net_badL hs3 hd3 (.lst (k22.ls _ _ Dp Dq hm8)) m0 (by omega) bms (.lst (kx.ls _ _ n7.1 n7.2 hc7)) (.inr ⟨_, _, rfl, L2, bad_full (g5.perm pL5) pL5.symm full5 h0.1 h0.2 r5 []⟩) (told_hear fun H23 S23 => ?_)
        have W23 := W22.same S23
        walk_at "rd"
        have ez : decide (((ms.length : Nat) : Int) + (([e1, e2, e3, e4, ev].length : Nat) : Int) = 11) = true := by rw [lms]; rfl
        rw [ez]
        exact hQ H23 W23
end
end K04

namespace K04
open PySem PySem.Spec PyProof.Rows L2 KX LamX
local macro_rules | `(tactic| walk_at "rd1") => `(tactic| first
  | with_reducible refine rd_seq ?_
  | with_reducible refine rd_for ?_
  | with_reducible refine rd_lc ?_
  | with_reducible refine rd_asg ?_
  | ((with_reducible refine' rd_var ?rdv ?_); (case rdv => exact rfl))
  | with_reducible refine rd_c ?_
  | with_reducible refine rd_op ?_
  | with_reducible refine rd_un ?_
  | with_reducible refine rd_cons ?_
  | with_reducible refine rd_nil ?_
  | with_reducible refine rd_call ?_
  | with_reducible refine rd_cb ?_
  | with_reducible refine rd_tB ?_
  | with_reducible refine rd_test ?_
  | with_reducible refine rd_bl ?_
  | with_reducible refine rd_rI0 ?_
  | with_reducible refine rd_eqI ?_
  | with_reducible refine rd_neI ?_
  | with_reducible refine rd_rU ?_
  | with_reducible refine rd_name ?_
  | with_reducible refine rd_ifs ?_
  | with_reducible refine rd_and ?_
  | with_reducible refine rd_or ?_
  | with_reducible refine rd_not ?_
  | with_reducible refine rd_yes ?_
  | with_reducible refine rd_andV ?_
  | with_reducible refine rd_orV ?_
  | with_reducible refine rd_notV ?_
  | with_reducible refine rd_if ?_
  | with_reducible refine rd_isN ?_
  | with_reducible refine rd_iT ?_
  | with_reducible refine rd_iF ?_
  | with_reducible refine rd_ret ?_
  | with_reducible refine rd_retN ?_
  | with_reducible refine rd_drop ?_
  | with_reducible refine rd_next ?_
  | with_reducible refine rd_cont ?_
  | with_reducible refine rd_brk ?_
  | with_reducible refine rd_nx ?_
  | with_reducible refine rd_rt ?_
  | with_reducible refine rd_ct ?_
  | with_reducible refine rd_bk ?_
  | with_reducible refine rd_par ?_
  | with_reducible refine rd_par3 ?_
  | with_reducible refine rd_par2 ?_
  | with_reducible refine rd_par33 ?_
  | with_reducible refine rd_gcons ?_
  | with_reducible refine rd_gnil ?_
  | with_reducible refine rd_sub ?_
  | with_reducible refine rd_tup ?_
  | with_reducible refine rd_lst ?_
  | ((with_reducible refine rd_tupT ?hl ?_); (case hl => exact Nat.le_of_ble_eq_true rfl))
  | ((with_reducible refine rd_lstT ?hl ?_); (case hl => exact Nat.le_of_ble_eq_true rfl))
  | with_reducible refine rd_bm ?_
  | with_reducible refine rd_bm0 ?_
  | with_reducible refine rd_sl ?_
  | with_reducible refine rd_noP ?_
  | with_reducible refine rd_part ?_
  | with_reducible refine rd_int ?_
  | with_reducible refine rd_int1 ?_
  | with_reducible refine rd_fld ?_
  | with_reducible refine rd_then ?_
  | with_reducible refine rd_raise ?_
  | with_reducible refine rd_one ?_
  | with_reducible refine rd_sfld ?_
  | with_reducible refine rd_ilist ?_
  | with_reducible refine rd_itup ?_
  | with_reducible refine rd_rng1 ?_
  | with_reducible refine rd_enum ?_
  | with_reducible refine rd_enumT ?_)
local macro_rules | `(tactic| walk_at "rd") => `(tactic| repeat (walk_at "rd1"))
section
variable {X : Cx} {K : PySem.W.Frag} {C f : Addr} {fd : FuncData} {ps : List Str} {sp : L2.Sp} {n : Nat}
theorem op_ownEqK (O : OwnC K C f) (F : FnOk X.prog X.w K X.mg X.base CX0 n f fd ps sp) (hb : Binds K fd ps []) (hr : Room n X.A) (hK : X.K = K := by rfl) : OpR X (compareOp .Eq) (rOwnC K C sp false) := by subst hK; exact op_ownEq O F hb hr
theorem op_ownNeK (O : OwnC K C f) (F : FnOk X.prog X.w K X.mg X.base CX0 n f fd ps sp) (hb : Binds K fd ps []) (hr : Room (n + 1) X.A) (hK : X.K = K := by rfl) : OpR X (compareOp .NotEq) (rOwnC K C sp true) := by subst hK; exact op_ownNe O F hb hr
end
theorem nf_self {K : PySem.W.Frag} {C : Addr} : PySem.W.notFirst K C (.ref C) = true := by
  unfold PySem.W.notFirst
  simp
theorem rd_ownN {K : PySem.W.Frag} {C s1 s2 : Addr} {neg : Bool} {ms ms' : List Int} {R R' : List (List Int)} {L L' : List (Int × Int)} {H : Hp} {Q : VK} (I : IsCls K C) (h1 : NetAt C H s1 ms R L) (h2 : NetAt C H s2 ms' R' L') (a1 : ms.length < 1000) (b1 : L.length < 1000) (a2 : ms'.length < 1000) (b2 : L'.length < 1000)
    (q : Q (.bl (neg != (decide (ms = ms') && decide (L = L')))) H) : rOwnC K C (spEqN K C) neg (.ref s1) (.ref s2) H Q := by
  obtain ⟨dx, pm, pn, pl, qs, ps, hN, _⟩ := h1.ob
  obtain ⟨dx', pm', pn', pl', qs', ps', hN', _⟩ := h2.ob
  exact ⟨s1, dx, _, .ref C, rfl, hN, I.ty hN', nf_self, s1, .ref s2, ms, R, L, rfl, h1, a1, b1, .inr ⟨s2, ms', R', L', rfl, h2, a2, b2, _, rfl, q⟩⟩
theorem rd_ownT {K : PySem.W.Frag} {C s1 t : Addr} {neg : Bool} {ms : List Int} {R : List (List Int)} {L : List (Int × Int)} {xs : List V} {H : Hp} {Q : VK} (h1 : NetAt C H s1 ms R L) (h2 : Tup H t xs) (a1 : ms.length < 1000) (b1 : L.length < 1000) (nf : PySem.W.notFirst K C (.type "tuple") = true) (kt : PySem.W.kitOne K (.type "tuple") (.ref C) = some false)
    (q : Q (.bl (neg != false)) H) : rOwnC K C (spEqN K C) neg (.ref s1) (.ref t) H Q := by
  obtain ⟨dx, pm, pn, pl, qs, ps, hN, _⟩ := h1.ob
  exact ⟨s1, dx, _, .type "tuple", rfl, hN, h2.ty, nf, s1, .ref t, ms, R, L, rfl, h1, a1, b1, .inl ⟨"tuple", h2.ty, kt, _, rfl, q⟩⟩
/-! ### texts of small data -/
structure Rep (d : PyData) : Prop where
  s : d.showable = true
  n : d.hasDict = false
  h : d.depth ≤ 64
  l : d.shown.length ≤ sizeLine
structure Sm (d : PyData) (w k : Nat) : Prop where
  s : d.showable = true
  n : d.hasDict = false
  l : d.leavesShort 13 = true
  w : d.weight ≤ w
  h : d.depth ≤ k
structure SmA (ds : List PyData) (w k : Nat) : Prop where
  s : PyData.showableAll ds = true
  n : PyData.hasDictAll ds = false
  l : PyData.leavesShortAll 13 ds = true
  w : PyData.weightAll ds ≤ w * ds.length
  h : PyData.depthAll ds ≤ k
theorem Sm.rep {d : PyData} {w k : Nat} (h : Sm d w k) (hw : w ≤ 1000000) (hk : k ≤ 64) : Rep d := by
  refine ⟨h.s, h.n, Nat.le_trans h.h hk, ?_⟩
  have q := PyData.shown_le 13 (by decide) d h.l
  have w' := h.w
  have z : sizeLine = 16777216 := by decide
  omega
theorem sm_int {i : Int} (h0 : 0 ≤ i) (h1 : i < 1000) : Sm (.int i) 11 0 := by
  have hl : i.natAbs.log2 < 10 := PySem.Flt.log2_lt_of (by decide) (by omega : i.natAbs < 2 ^ 10)
  refine ⟨decide_eq_true (by omega), rfl, ?_, ?_, Nat.le_refl _⟩
  · exact decide_eq_true (PyData.shown_int_le (by omega))
  · show (if i == 0 then 0 else i.natAbs.log2 + 1) ≤ 11
    split <;> omega
theorem SmA.nil {w k : Nat} : SmA [] w k := ⟨rfl, rfl, rfl, Nat.zero_le _, Nat.zero_le _⟩
theorem SmA.cons {d : PyData} {ds : List PyData} {w k : Nat} (a : Sm d w k) (b : SmA ds (w + 1) k) : SmA (d :: ds) (w + 1) k := by
  refine ⟨?_, ?_, ?_, ?_, ?_⟩
  · show (d.showable && PyData.showableAll ds) = true
    rw [a.s, b.s]; rfl
  · show (d.hasDict || PyData.hasDictAll ds) = false
    rw [a.n, b.n]; rfl
  · show (d.leavesShort 13 && PyData.leavesShortAll 13 ds) = true
    rw [a.l, b.l]; rfl
  · show d.weight + 1 + PyData.weightAll ds ≤ (w + 1) * (ds.length + 1)
    have := a.w; have := b.w
    rw [Nat.mul_add]; omega
  · show max d.depth (PyData.depthAll ds) ≤ k
    have := a.h; have := b.h
    omega
theorem SmA.tuple {ds : List PyData} {w k : Nat} (a : SmA ds w k) : Sm (.tuple ds) (w * ds.length) (k + 1) :=
  ⟨a.s, a.n, a.l, a.w, Nat.add_le_add_right a.h 1⟩
theorem Sm.mono {d : PyData} {w k w' k' : Nat} (h : Sm d w k) (hw : w ≤ w') (hk : k ≤ k') : Sm d w' k' := ⟨h.s, h.n, h.l, Nat.le_trans h.w hw, Nat.le_trans h.h hk⟩
theorem sm_ints : ∀ {r : List Int}, (∀ x ∈ r, 0 ≤ x ∧ x < 10) → SmA (r.map PyData.int) 12 0
  | [], _ => .nil
  | x :: r, h => .cons (sm_int (h x (by simp)).1 (by have := (h x (by simp)).2; omega)) (sm_ints fun y hy => h y (by simp [hy]))
theorem sm_pair {e : Int × Int} (a0 : 0 ≤ e.1) (a1 : e.1 < 10) (b0 : 0 ≤ e.2) (b1 : e.2 < 10) : Sm (dP e) 24 1 :=
  (SmA.cons (sm_int a0 (by omega)) (SmA.cons (sm_int b0 (by omega)) (SmA.nil (w := 12) (k := 0)))).tuple
theorem sm_pairs : ∀ {L : List (Int × Int)}, (∀ e ∈ L, 0 ≤ e.1 ∧ e.1 < 10 ∧ 0 ≤ e.2 ∧ e.2 < 10) → SmA (L.map dP) 25 1
  | [], _ => .nil
  | e :: L, h => by
    obtain ⟨h1, h2, h3, h4⟩ := h e (by simp)
    exact .cons (sm_pair h1 h2 h3 h4) (sm_pairs fun y hy => h y (by simp [hy]))
def dNet (ms : List Int) (L : List (Int × Int)) : PyData := .tuple [.tuple (ms.map PyData.int), .tuple (L.map dP)]
theorem rep_net {ms : List Int} {L : List (Int × Int)} (hm : ∀ m ∈ ms, 0 ≤ m ∧ m < 4) (lm : ms.length ≤ 10) (hL : ∀ e ∈ L, 0 ≤ e.1 ∧ e.1 < 10 ∧ 0 ≤ e.2 ∧ e.2 < 10) (lL : L.length ≤ 40) : Rep (dNet ms L) := by
  have a := (sm_ints (r := ms) fun x hx => by have := hm x hx; omega).tuple
  rw [List.length_map] at a
  have b := (sm_pairs hL).tuple
  rw [List.length_map] at b
  have c := (SmA.cons (a.mono (w' := 1000) (k' := 2) (by omega) (by decide)) (SmA.cons (b.mono (w' := 1000) (k' := 2) (by omega) (Nat.le_refl _)) (SmA.nil (w := 1001) (k := 2)))).tuple
  exact c.rep (by show 1001 * 2 ≤ _; decide) (by decide)
theorem dp_net {K : PySem.W.Frag} {H : Hp} {t x y : Addr} {ps : List Addr} {ms : List Int} {L : List (Int × Int)} (ht : H t = some (.tup [.ref x, .ref y])) (hx : Tup H x (ms.map V.int)) (hy : Tup H y (ps.map V.ref)) (hp : Paired (PairAt H) ps L) : Dp K H (.ref t) (dNet ms L) :=
  .tup (SqT.of ht) (.cons (.tup hx.sq (dA_ints K H ms)) (.cons (.tup hy.sq (dp_pairs hp)) .nil))
/-! ### how many links there are -/
theorem split_len {α : Type} (f : α → Bool) : ∀ L : List α, L.length = (L.filter f).length + (L.filter fun x => !f x).length
  | [] => rfl
  | x :: L => by
    have := split_len f L
    rw [List.filter_cons, List.filter_cons]
    by_cases h : f x = true
    · simp [h]; omega
    · simp [h]; omega
theorem fst_len {d : Nat} : ∀ (n : Nat) (L : List (Int × Int)), (∀ e ∈ L, 0 ≤ e.1 ∧ e.1 < n) → (∀ s : Int, (L.filter fun e => decide (e.1 = s)).length ≤ d) → L.length ≤ n * d
  | 0, L, h, _ => by
    cases L with
    | nil => simp
    | cons e L => have := h e List.mem_cons_self; omega
  | n + 1, L, h, hd => by
    rw [split_len (fun e => decide (e.1 = ((n : Nat) : Int))) L]
    have h1 := hd ((n : Nat) : Int)
    have h2 := fst_len n (L.filter fun e => !decide (e.1 = ((n : Nat) : Int))) (fun e he => by
      obtain ⟨a, b⟩ := List.mem_filter.mp he
      have := h e a
      simp at b
      omega) fun s => by
        have : ((L.filter fun e => !decide (e.1 = ((n : Nat) : Int))).filter fun e => decide (e.1 = s)).length ≤ (L.filter fun e => decide (e.1 = s)).length := by
          rw [List.filter_filter]
          have e : (L.filter fun e => decide (e.1 = s) && !decide (e.1 = ((n : Nat) : Int))) = ((L.filter fun e => decide (e.1 = s)).filter fun e => !decide (e.1 = ((n : Nat) : Int))) := by
            rw [List.filter_filter]
            congr 1
            funext e
            exact Bool.and_comm _ _
          rw [e]
          exact List.length_filter_le _ _
        exact Nat.le_trans this (hd s)
    rw [Nat.add_mul]; omega
theorem good_len {n : Nat} {L : List (Int × Int)} (g : Good n 4 L) : L.length ≤ n * 4 :=
  fst_len n L (fun e he => by have := g.rng e he; omega) fun s => by
    refine Nat.le_trans ?_ (g.deg s)
    have e : (L.filter fun e => decide (e.1 = s)) = (L.filter (inc s)).filter fun e => decide (e.1 = s) := by
      rw [List.filter_filter]
      congr 1
      funext e
      unfold inc
      by_cases h : e.1 = s <;> simp [h]
    rw [e]
    exact List.length_filter_le _ _
theorem good_tail {n : Nat} {e : Int × Int} {L : List (Int × Int)} (g : Good n 4 (e :: L)) : Good n 4 L :=
  ⟨fun x hx => g.rng x (List.mem_cons_of_mem _ hx), (List.nodup_cons.mp g.nd).2, fun s => by
    have := g.deg s
    rw [List.filter_cons] at this
    split at this
    · simp only [List.length_cons] at this; omega
    · exact this⟩
theorem net_nl {H H' : Hp} {C n : Addr} {ms : List Int} {R : List (List Int)} {L : List (Int × Int)} (h : NetAt C H n ms R L) (k : ∀ a o, H a = some o → (∀ xs, o ≠ .lst xs) → (∀ ps, o ≠ .tbl ps) → H' a = some o) : NetAt C H' n ms R L := by
  obtain ⟨dx, pm, pn, pl, qs, ps, h1, h2, h3, h4, h5, h6⟩ := h.ob
  have tp : ∀ {a xs}, H a = some (.tup xs) → H' a = some (.tup xs) := fun h => k _ _ h (fun _ e => nomatch e) (fun _ e => nomatch e)
  have tr : ∀ {a xs}, Tup H a xs → Tup H' a xs := fun h => by
    rcases h with h | ⟨o, h⟩
    · exact .inl (tp h)
    · exact .inr ⟨o, k _ _ h (fun xs e => nomatch e) (fun ps e => nomatch e)⟩
  exact ⟨dx, pm, pn, pl, qs, ps, k _ _ h1 (fun xs e => nomatch e) (fun ps e => nomatch e), tr h2, tp h3, paired_mono h4 fun _ _ z => tr z, tp h5, paired_mono h6 fun _ _ z => tp z⟩
theorem nl_upd {H : Hp} {l : Addr} {xs ys : List V} (hl : H l = some (.lst xs)) : ∀ a o, H a = some o → (∀ xs, o ≠ .lst xs) → (∀ ps, o ≠ .tbl ps) → upd H l (.lst ys) a = some o := fun a o h n _ => by
  rw [upd_ne (fun z => by rw [z, hl] at h; exact n _ (Option.some.inj h).symm)]
  exact h
theorem perm_pairs {H : Hp} {ps : List Addr} {L : List (Int × Int)} {ys : List V} (hp : Paired (PairAt H) ps L) (pm : ys.Perm (ps.map V.ref)) : ∃ qs M, ys = qs.map V.ref ∧ Paired (PairAt H) qs M ∧ M.Perm L := by
  have mem : ∀ x ∈ ps.map V.ref, ∃ t, x = V.ref t ∧ PairAt H t (keyOf H x) := fun x hx => by
    obtain ⟨t, ht, rfl⟩ := List.mem_map.mp hx
    obtain ⟨i, hi⟩ := List.getElem?_of_mem ht
    obtain ⟨e, _, he⟩ := paired_get hp hi
    exact ⟨t, rfl, by rw [keyOf_at he]; exact he⟩
  have keys : (ps.map V.ref).map (keyOf H) = L := by
    clear mem pm
    induction hp with
    | nil => rfl
    | cons x _ ih => rw [List.map_cons, List.map_cons, ih, keyOf_at x]
  have my : ∀ y ∈ ys, ∃ t, y = V.ref t ∧ PairAt H t (keyOf H y) := fun y hy => mem y (pm.mem_iff.mp hy)
  refine ⟨ys.map addrOf, ys.map (keyOf H), ?_, ?_, by rw [← keys]; exact pm.map _⟩
  · clear pm
    induction ys with
    | nil => rfl
    | cons y ys ih =>
      obtain ⟨t, rfl, _⟩ := my y List.mem_cons_self
      rw [List.map_cons, List.map_cons, ← ih fun z hz => my z (List.mem_cons_of_mem _ hz)]
      rfl
  · clear pm
    induction ys with
    | nil => exact .nil
    | cons y ys ih =>
      obtain ⟨t, rfl, ht⟩ := my y List.mem_cons_self
      exact .cons ht (ih fun z hz => my z (List.mem_cons_of_mem _ hz))
def spLaw (tM tL tR : Addr) (K : PySem.W.Frag) : L2.Sp := fun vs H Q _ => ∃ (a : Addr) (ns : List Int), vs = [.ref a] ∧ SqL K H a (ns.map V.int) ∧
  (H tM = some (.tbl #[]) ∧ H tL = some (.tbl #[]) ∧ H tR = some (.tbl #[])) ∧ ∀ H', Q (.bl true) H'
section
variable {P : Program} {w : World} {K : PySem.W.Frag} {mg : Str → Option Value} {base : Heap} (T : TX K mg)
theorem G_law {tM tL tR fM fL fR : Addr} {dM dL dR : FuncData}
    (GM : FnOk P w K mg base CX0 10 fM dM ["deal", "modes", "links"] (spMR tM tL tR)) (mM : mg "_law_modes_refused" = some (.ref fM)) (kM : PySem.W.keepIn K (.ref fM) = true) (bM : Binds K dM ["deal", "modes", "links"] [])
    (GL : FnOk P w K mg base CX0 10 fL dL ["deal", "modes", "links"] (spLR tM tL tR)) (mL : mg "_law_links_refused" = some (.ref fL)) (kL : PySem.W.keepIn K (.ref fL) = true) (bL : Binds K dL ["deal", "modes", "links"] [])
    (GR : FnOk P w K mg base CX0 10 fR dR ["deal"] (spFR tM tL tR)) (mR : mg "_law_fifth_right" = some (.ref fR)) (kR : PySem.W.keepIn K (.ref fR) = true) (bR : Binds K dR ["deal"] [])
    (nf : PySem.W.notFirst K T.c_Network (.type "tuple") = true) (kt : PySem.W.kitOne K (.type "tuple") (.ref T.c_Network) = some false) :
    FnR P w K mg base CX0 (CG 11) T.f_law T.d_law ["script"] (spLaw tM tL tR K) := by
  obtain ⟨oc, od, kV, doc, pm, an, cdv, ct, osl, eF, lk, hcd⟩ := T.F_law.ex
  rw [eF] at lk
  rw [eF]
  refine fnG_of lk hcd sc_law (fun vs H Q E h => ?_) fun A outer s H vs Q E hr hg h => ?_
  · obtain ⟨a, ns, rfl, _⟩ := h
    rfl
  have hu : (A.deeper (envOfC "law" (defScope s_law) s.heap.objs.size T.f_law cdv)).units + 66 < cLine := by
    have := hr.un
    omega
  refine ⟨_, PSs.nox (pss_cons (ps_set (i := 1) sc_law.nd rfl (.inr rfl) (pe_call (G__law_draw T) (hr.mono (by decide)) (by rfl) T.m__law_draw T.F__law_draw.kp T.b__law_draw .nil pass0 (by exact (pa_cons (pv 0) (pa_cons pe_int pa_nil))))) (pss_cons (ps_for PassesOwn.never rfl (pi_range1 (by rfl) T.n_range (by exact (pa_cons pe_int pa_nil))) (pg_name (i := 2) sc_law.nd rfl (.inl rfl)) (pss_cons (ps_asg (pe_call (G__law_network T) (hr.mono (by decide)) (by rfl) T.m__law_network T.F__law_network.kp T.b__law_network .nil pass0 (by exact (pa_cons (pv 1) (pa_cons (pe_op op_add pe_int (pe_call (G__law_any T) (hr.mono (by decide)) (by rfl) T.m__law_any T.F__law_any.kp T.b__law_any .nil pass0 (by exact (pa_cons (pv 1) (pa_cons pe_int pa_nil))))) (pa_cons (pe_op op_add pe_int (pe_call (G__law_any T) (hr.mono (by decide)) (by rfl) T.m__law_any T.F__law_any.kp T.b__law_any .nil pass0 (by exact (pa_cons (pv 1) (pa_cons pe_int pa_nil))))) pa_nil))))) (pg_tupK (K := K) (n := 2) (by rfl) (pgs_cons (pg_name (i := 3) sc_law.nd rfl (.inl rfl)) (pgs_cons (pg_name (i := 4) sc_law.nd rfl (.inl rfl)) pgs_nil)))) (pss_cons (ps_setLc (i := 5) (own := [("one", 9), ("other", 10)]) (by rfl) sc_law.nd rfl rfl (sw_true rfl rfl rfl (by decide +kernel)) (pi_listK (K := K) (pe_call (G__law_mixed T) (hr.mono (by decide)) (by rfl) T.m__law_mixed T.F__law_mixed.kp T.b__law_mixed .nil pass0 (by exact (pa_cons (pv 1) (pa_cons (pv 4) pa_nil))))) (blkOk_by (own := [("one", 9), ("other", 10)]) (N := N_law) (sc := defScope s_law) (by decide +kernel)) (fun _ _ _ _ _ => (pg_tupK (K := K) (n := 2) (by rfl) (pgs_cons (pg_name (i := 9) sc_law.nd rfl (.inl rfl)) (pgs_cons (pg_name (i := 10) sc_law.nd rfl (.inl rfl)) pgs_nil)))) (fun _ _ _ _ _ => pts_nil) (fun _ _ _ _ _ => (pe_ifExp (pt_cmpR op_eq (pe_call (G__law_any T) (hr.mono (by decide)) (by rfl) T.m__law_any T.F__law_any.kp T.b__law_any .nil pass0 (by exact (pa_cons (pv 1) (pa_cons pe_int pa_nil)))) pe_int (nomark _)) (pe_tup (pa_cons (pv 9) (pa_cons (pv 10) pa_nil))) (pe_lst (pa_cons (pv 10) (pa_cons (pv 9) pa_nil))))) ) (pss_cons (ps_par (i := 6) (j := 7) (by rfl) sc_law.nd rfl rfl (by decide) rfl rfl (pa_cons (pe_callTy (cr_listK (K := K)) (by rfl) T.n_list (by decide +kernel) (by exact (pa_cons (pv 3) pa_nil))) (pa_cons (pe_make T.M_Network (G_Network_init T) (hr.mono (by decide)) (by rfl) T.m_Network T.b_Network_init .nil passL (by exact (pa_cons (pv 3) (pa_cons (pv 4) pa_nil)))) pa_nil)) (by rfl)) (pss_cons (ps_set (i := 8) sc_law.nd rfl (.inl rfl) (pe_makeK0 T.M_Network (G_Network_init T) (hr.mono (by decide)) (by rfl) T.m_Network (kb_Network T) passL (by exact (pk_cons (pv 5) (pk_cons (pv 6) pk_nil))))) (pss_cons (ps_expr (pe_bmK (K := K) PySem.F.slot_list_append PySem.F.type_list_append mt_append (pv 5) (by exact (pa_cons pe_non pa_nil)))) (pss_cons (ps_asg (pe_op op_sub pe_int (pe_ix (ix_listK (K := K)) (pv 6) pe_int (fun _ _ => rfl))) (pg_sub (pv 6) pe_int set_list)) (pss_cons (ps_if (PW.pt (pw_or (pt_cmpR op_ne (pe_callB (cr_reprK (K := K) hg hu) (by rfl) T.n_repr (by decide +kernel) (by exact (pa_cons (pe_tup (pa_cons (pe_fldK (K := K) (pv 8)) (pa_cons (pe_fldK (K := K) (pv 8)) pa_nil))) pa_nil))) (pe_callB (cr_reprK (K := K) hg hu) (by rfl) T.n_repr (by decide +kernel) (by exact (pa_cons (pe_tup (pa_cons (pe_tupleK (K := K) (by rfl) T.n_tuple (pv 3)) (pa_cons (pe_tupleK (K := K) (by rfl) T.n_tuple (pv 4)) pa_nil))) pa_nil))) (nomark _)) (pw_or (pt_not (pt_cmpR (op_ownEqK (K := K) (sp := spEqN K T.c_Network) T.O_Network (G_Network_eq T) T.b_Network_eq (hr.mono (by decide))) (pv 8) (pv 7) (nomark _))) (pw_or1 (pt_cmpR (op_ownNeK (K := K) (sp := spEqN K T.c_Network) T.O_Network (G_Network_eq T) T.b_Network_eq (hr.mono (by decide))) (pv 8) (pv 7) (nomark _)))))) (pss_one (ps_ret pe_bl)) pss_nil) (pss_cons (ps_if (PW.pt (pw_or (pt_cmpR (op_ownEqK (K := K) (sp := spEqN K T.c_Network) T.O_Network (G_Network_eq T) T.b_Network_eq (hr.mono (by decide))) (pv 8) (pe_tup (pa_cons (pe_tupleK (K := K) (by rfl) T.n_tuple (pv 3)) (pa_cons (pe_tupleK (K := K) (by rfl) T.n_tuple (pv 4)) pa_nil))) (nomark _)) (pw_or (pt_cmpR (op_ownEqK (K := K) (sp := spEqN K T.c_Network) T.O_Network (G_Network_eq T) T.b_Network_eq (hr.mono (by decide))) (pv 8) (pe_make T.M_Network (G_Network_init T) (hr.mono (by decide)) (by rfl) T.m_Network T.b_Network_init .nil passL (by exact (pa_cons (pv 6) (pa_cons (pv 4) pa_nil)))) (nomark _)) (pw_or1 (PW.pt (pw_and (pt_cmpR (op_neDK (K := K) hr.units) (pv 4) (pe_lst pa_nil) (nomark _)) (pw_and1 (pt_cmpR (op_ownEqK (K := K) (sp := spEqN K T.c_Network) T.O_Network (G_Network_eq T) T.b_Network_eq (hr.mono (by decide))) (pv 8) (pe_make T.M_Network (G_Network_init T) (hr.mono (by decide)) (by rfl) T.m_Network T.b_Network_init .nil passL (by exact (pa_cons (pv 3) (pa_cons (pe_slice (sl_listK (K := K)) (pv 4) (po_some pe_int) po_none) pa_nil)))) (nomark _))))))))) (pss_one (ps_ret pe_bl)) pss_nil) (pss_cons (ps_if (PW.pt (pw_or (pt_not (pt_val (pe_call GM (hr.mono (by decide)) (by rfl) mM kM bM .nil pass0 (by exact (pa_cons (pv 1) (pa_cons (pv 3) (pa_cons (pv 4) pa_nil))))))) (pw_or1 (pt_not (pt_val (pe_call GL (hr.mono (by decide)) (by rfl) mL kL bL .nil pass0 (by exact (pa_cons (pv 1) (pa_cons (pv 3) (pa_cons (pv 4) pa_nil)))))))))) (pss_one (ps_ret pe_bl)) pss_nil) (pss_one (ps_if (pt_cmpR op_ne (pe_callB (cr_reprK (K := K) hg hu) (by rfl) T.n_repr (by decide +kernel) (by exact (pa_cons (pe_tup (pa_cons (pe_fldK (K := K) (pv 7)) (pa_cons (pe_fldK (K := K) (pv 7)) pa_nil))) pa_nil))) (pe_callB (cr_reprK (K := K) hg hu) (by rfl) T.n_repr (by decide +kernel) (by exact (pa_cons (pe_tup (pa_cons (pe_tupleK (K := K) (by rfl) T.n_tuple (pv 3)) (pa_cons (pe_tupleK (K := K) (by rfl) T.n_tuple (pv 4)) pa_nil))) pa_nil))) (nomark _)) (pss_one (ps_ret pe_bl)) pss_nil)))))))))))) (pss_one (ps_ret (pe_call GR (hr.mono (by decide)) (by rfl) mR kR bR .nil pass0 (by exact (pa_cons (pv 1) pa_nil))))))), ?_⟩
  obtain ⟨a, ns0, rfl, hS, ht, hQ⟩ := h
  walk_at "rd"
  refine ⟨a, ns0, 4, rfl, hS, by decide, by decide, fun H0 p q S0 np nq d0 => ?_⟩
  have T0 : Tabs (T3 tM tL tR) H0 := fun z hz => by
    rcases t3_cases hz with rfl | rfl | rfl
    · exact TabS.nil (S0 _ _ ht.1)
    · exact TabS.nil (S0 _ _ ht.2.1)
    · exact TabS.nil (S0 _ _ ht.2.2)
  clear hS ht S0 np nq
  walk_at "rd"
  refine ⟨by decide, by decide, ?_⟩
  refine for_range (lo := 0) (n := 3) (fun i σ H' => (∃ o2 o3 o4 o5 o6 o7 o8 o9 o10, σ = [some (.ref a), some (.ref p), o2, o3, o4, o5, o6, o7, o8, o9, o10]) ∧ Deal H' p q ∧ Tabs (T3 tM tL tR) H')
    ⟨⟨_, _, _, _, _, _, _, _, _, rfl⟩, d0, T0⟩ (fun i σ H1 hi pv => ?_) (fun σ H' pv => ?_)
  · obtain ⟨⟨o2, o3, o4, o5, o6, o7, o8, o9, o10, rfl⟩, d1, T1⟩ := pv
    clear d0 T0
    have W1 : Wd (T3 tM tL tR) p q H1 H1 := ⟨d1, T1, Kp.refl⟩
    walk_at "rd"
    refine ⟨p, q, 4, rfl, d1, by decide, by decide, fun H2 k d2 f2 k0 k4 => ?_⟩
    have W2 := W1.fix d2 f2
    walk_at "rd"
    refine ⟨p, q, 9, rfl, d2, by decide, by decide, fun H3 m d3 f3 mm0 m9 => ?_⟩
    have W3 := W2.fix d3 f3
    walk_at "rd"
    obtain ⟨n, hn⟩ : ∃ n : Nat, 1 + m = (n : Nat) := Int.eq_ofNat_of_zero_le (by omega)
    rw [hn]
    refine ⟨p, q, 1 + k, n, rfl, d3, by omega, by omega, by omega, by omega, fun H4 t a' l ms ps L d4 f4 ht a0 l0 al ap aq lp lq hms lms bms hps pL g srt => ?_⟩
    have W4 := W3.fix d4 f4
    refine rd_gtup (Tup.of ht) rfl ?_
    have n10 : n < 10 := by omega
    subst lms
    have m0 : ms ≠ [] := fun z => by rw [z] at hn; simp at hn; omega
    have lL : L.length ≤ 36 := by have := good_len g; omega
    have rL : ∀ e ∈ L, 0 ≤ e.1 ∧ e.1 < 10 ∧ 0 ≤ e.2 ∧ e.2 < 10 := fun e he => by have := g.rng e he; omega
    have lpsL := paired_len pL
    clear d1 T1 W1 d2 f2 W2 d3 f3 W3 f4 ht a0 l0 k0 k4 mm0 m9 hn
    walk_at "rd"
    have els : Els H4 (ps.map V.ref) := fun x hx => by
      obtain ⟨t, ht, rfl⟩ := List.mem_map.mp hx
      obtain ⟨i, hi⟩ := List.getElem?_of_mem ht
      obtain ⟨e, _, he⟩ := paired_get pL hi
      exact .inr ⟨t, e, rfl, he⟩
    refine ⟨p, q, l, ps.map V.ref, rfl, d4, hps, els, by rw [List.length_map]; omega, fun H5 ml ys d5 f5 ml0 mlp mlq perm hml => ?_⟩
    have W5 := W4.fix d5 f5
    have k45 : Kp p q H4 H5 := Kp.fix d4 f5
    have ha5 := k45.ls _ _ ap aq hms
    have hl5 := k45.ls _ _ lp lq hps
    have pL5 := k45.pairs pL
    obtain ⟨qs, M, rfl, pM5, permM⟩ := perm_pairs pL5 perm
    clear els perm W4 d4 d5 f5 k45 hms hps pL ml0
    refine ⟨ml, rfl, ⟨_, SqL.of hml⟩, fun D hD => ?_⟩
    obtain ⟨Dp, Dq⟩ := W5.d.nes hD
    have lM : M.length ≤ 36 := by rw [permM.length_eq]; exact lL
    have rM : ∀ e ∈ M, 0 ≤ e.1 ∧ e.1 < e.2 ∧ e.2 < (ms.length : Nat) := fun e he => g.rng e (permM.mem_iff.mp he)
    refine lc_list (xs := qs.map V.ref) (fun j H' => Wd (T3 tM tL tR) p q H1 H' ∧ Kp p q H5 H' ∧ ∃ xs es, H' D = some (.lst xs) ∧ Paired (Ent p q D H') xs es ∧ es.map norm = M.take j)
      ⟨W5.same (Same.fresh hD), Kp.same (Same.fresh hD), [], [], upd_same, .nil, rfl⟩ (fun j H' _ pv => SqL.of (pv.2.1.ls _ _ mlp mlq hml)) (fun j x H6 hx pv => ?_) (fun H6 pv => ?_)
    · obtain ⟨W6, k6, xs, es, hx6, hes, hem⟩ := pv
      rw [List.getElem?_map] at hx
      obtain ⟨t, ht, rfl⟩ := Option.map_eq_some_iff.mp hx
      obtain ⟨e, he, hte⟩ := paired_get pM5 ht
      have hte6 : H6 t = some (.tup [.int e.1, .int e.2]) := k6.pair hte
      have hlt := (rM e (List.mem_of_getElem? he)).2.1
      have lx : xs.length ≤ 36 := by
        rw [paired_len hes]
        have : es.length = (M.take j).length := by rw [← hem, List.length_map]
        rw [this, List.length_take]; omega
      have tk : M.take (j + 1) = M.take j ++ [e] := by rw [List.take_succ, he]; rfl
      have put : ∀ (H9 : Hp) (u : V) (e' : Int × Int), Wd (T3 tM tL tR) p q H1 H9 → Kp p q H6 H9 → Ent p q D H9 u e' → norm e' = e → ∃ acc, H9 D = some (.lst acc) ∧ acc.length < sizeLine ∧ (Wd (T3 tM tL tR) p q H1 (upd H9 D (.lst (acc ++ [u]))) ∧ Kp p q H5 (upd H9 D (.lst (acc ++ [u]))) ∧
          ∃ xs es, upd H9 D (.lst (acc ++ [u])) D = some (.lst xs) ∧ Paired (Ent p q D (upd H9 D (.lst (acc ++ [u])))) xs es ∧ es.map norm = M.take (j + 1)) := fun H9 u e' W9 k9 hu hn => by
        have hx9 := k9.ls _ _ Dp Dq hx6
        refine ⟨xs, hx9, Nat.lt_of_le_of_lt lx (by decide), Wd.put W5 hD W9 hx9, Kp.put Kp.refl hD (k6.trans k9), _, es ++ [e'], upd_same, ?_, ?_⟩
        · exact paired_mono (paired_snoc (paired_mono hes fun _ _ z => z.kp k9) hu) fun _ _ z => z.upd hx9
        · rw [List.map_append, hem, tk]
          congr 1
          show [norm e'] = [e]
          rw [hn]
      refine rd_gtup (Tup.of hte6) rfl ?_
      walk_at "rd"
      refine ⟨rfl, ?_⟩
      walk_at "rd"
      refine ⟨p, q, 2, rfl, W6.d, by decide, by decide, fun H9 i d9 f9 i0 i2 => ?_⟩
      have W9 := W6.fix d9 f9
      have k9 : Kp p q H6 H9 := Kp.fix W6.d f9
      walk_at "rd"
      by_cases c : i = 0
      · refine iteT' (decide_eq_true c) ?_
        walk_at "rd"
        intro u H10 z10 S10 hu
        exact put H10 _ (e.1, e.2) (W9.same S10) (k9.trans (Kp.same S10)) ⟨u, rfl, .inl hu⟩ (by unfold norm; rw [if_pos (by show e.1 ≤ e.2; omega)])
      · refine iteF' (decide_eq_false c) ?_
        walk_at "rd"
        intro u H10 z10 S10 hu
        have nu := W9.d.nes z10
        have ul : u ≠ D := fun z => by
          have := k9.ls _ _ Dp Dq hx6
          rw [← z, z10] at this; cases this
        exact put H10 _ (e.2, e.1) (W9.same S10) (k9.trans (Kp.same S10)) ⟨u, rfl, .inr ⟨nu.1, nu.2, ul, hu⟩⟩ (by unfold norm; rw [if_neg (by show ¬ e.2 ≤ e.1; omega)])
    · obtain ⟨W6, k6, xs, es, hx6, hes, hem⟩ := pv
      rw [List.length_map, paired_len pM5, List.take_length] at hem
      have ha6 := k6.ls _ _ ap aq ha5
      have hl6 := k6.ls _ _ lp lq hl5
      have pL6 := k6.pairs pL5
      have aD : a' ≠ D := fun z => by rw [z, hD] at ha5; cases ha5
      have lD : l ≠ D := fun z => by rw [z, hD] at hl5; cases hl5
      have pmE : (es.map norm).Perm L := by rw [hem]; exact permM
      have lE : xs.length ≤ 36 := by rw [paired_len hes, ← List.length_map (f := norm), hem]; exact lM
      have rE : ∀ e ∈ es, 0 ≤ e.1 ∧ e.1 < (ms.length : Nat) ∧ 0 ≤ e.2 ∧ e.2 < (ms.length : Nat) ∧ e.1 ≠ e.2 := fun e he => by
        have := g.rng (norm e) (pmE.mem_iff.mp (List.mem_map.mpr ⟨e, he, rfl⟩))
        unfold norm at this
        split at this <;> (first | omega | (simp only at this; omega))
      clear ha5 hl5 pL5 pM5 permM hem rM k6
      walk_at "rd"
      refine rd_list (.inl (SqL.of ha6)) ?_
      intro row H7 row0 S7 hrow
      have W7 := W6.same S7
      have nrow := W6.d.nes row0
      have rowD : row ≠ D := fun z => by rw [z, hx6] at row0; cases row0
      have rowa : a' ≠ row := fun z => by rw [z, row0] at ha6; cases ha6
      have rowl : l ≠ row := fun z => by rw [z, row0] at hl6; cases hl6
      walk_at "rd"
      refine rd_make ?_
      walk_at "rd"
      intro s1 dx1 hs1 hd1 _
      have pL7 := pairs_same pL6 S7
      have rLn : ∀ e ∈ L, 0 ≤ e.1 ∧ e.1 < e.2 ∧ e.2 < (ms.length : Nat) := g.rng
      refine net_good hs1 hd1 (.lst (S7 _ _ ha6)) m0 (by omega) bms (.lst (S7 _ _ hl6)) (lk_pairs pL7 rLn) g srt (norm_good g) (fun H8 R8 S8 net1 => ⟨rfl, ?_⟩)
      have W8 := W7.same S8
      have S68 : Same H6 H8 := S7.trans S8
      walk_at "rd"
      refine rd_makeK ?_
      walk_at "rd"
      refine ⟨rfl, rfl, fun s2 dx2 hs2 hd2 _ => ?_⟩
      have hes8 : Paired (Ent p q D H8) xs es := paired_mono hes fun _ _ z => z.kp (Kp.same S68)
      refine net_good hs2 hd2 (.lst (S8 _ _ hrow)) m0 (by omega) bms (.lst (S68 _ _ hx6)) (ents_lk hes8 rE) g srt pmE (fun H9 R9 S9 net2 => ⟨rfl, ?_⟩)
      have S69 := S68.trans S9
      have W9 := W8.same S9
      have hx9 := S69 _ _ hx6
      have net19 := net_nl net1 fun a o h _ _ => S9 a o h
      have ha9 := S69 _ _ ha6
      have hl9 := S69 _ _ hl6
      have hrow9 := S9 _ _ (S8 _ _ hrow)
      have pL9 := pairs_same pL6 S69
      clear net1 pL7 W8 S68 W7 hes8 S7 S8 hrow S9 hes
      walk_at "rd"
      refine rd_ty hx9 ?_
      walk_at "rd"
      refine rd_app hx9 (by omega) ?_
      have W10 := Wd.put (ys := xs ++ [V.non]) W5 hD W9 hx9
      have na := net_nl net19 (nl_upd (ys := xs ++ [V.non]) hx9)
      have nb2 := net_nl net2 (nl_upd (ys := xs ++ [V.non]) hx9)
      have ha10 : upd H9 D (.lst (xs ++ [V.non])) a' = _ := (upd_ne aD).trans ha9
      have hl10 : upd H9 D (.lst (xs ++ [V.non])) l = _ := (upd_ne lD).trans hl9
      have hrow10 : upd H9 D (.lst (xs ++ [V.non])) row = _ := (upd_ne rowD).trans hrow9
      have pL10 := pairs_upd (ys := xs ++ [V.non]) pL9 hx9
      clear W9 net19 net2 ha9 hl9 hrow9 pL9 hx9 S69
      generalize upd H9 D (.lst (xs ++ [V.non])) = H10 at W10 na nb2 ha10 hl10 hrow10 pL10
      obtain ⟨m1, mr, rfl⟩ : ∃ m1 mr, ms = m1 :: mr := by
        cases ms with
        | nil => exact absurd rfl m0
        | cons m1 mr => exact ⟨m1, mr, rfl⟩
      walk_at "rd"
      refine rd_ixL hrow10 (atI_nat (xs := (m1 :: mr).map V.int) (j := 0) rfl) ?_
      walk_at "rd"
      refine ⟨row, _, 0, 0, rfl, rfl, hrow10, by show ixN ((m1 :: mr).map V.int).length 0 = some 0; unfold ixN; rw [if_pos (by decide)]; simp, ?_⟩
      have em : ((m1 :: mr).map V.int).set 0 (V.int (3 - m1)) = ((3 - m1) :: mr).map V.int := rfl
      rw [em]
      have W11 := Wd.put (ys := ((3 - m1) :: mr).map V.int) W6 row0 W10 hrow10
      have na11 := net_nl na (nl_upd (ys := ((3 - m1) :: mr).map V.int) hrow10)
      have nb11 := net_nl nb2 (nl_upd (ys := ((3 - m1) :: mr).map V.int) hrow10)
      have ha11 : upd H10 row (.lst (((3 - m1) :: mr).map V.int)) a' = _ := (upd_ne rowa).trans ha10
      have hl11 : upd H10 row (.lst (((3 - m1) :: mr).map V.int)) l = _ := (upd_ne rowl).trans hl10
      have hrow11 : upd H10 row (.lst (((3 - m1) :: mr).map V.int)) row = some (.lst (((3 - m1) :: mr).map V.int)) := upd_same
      have pL11 := pairs_upd (ys := ((3 - m1) :: mr).map V.int) pL10 hrow10
      clear W10 na nb2 ha10 hl10 hrow10 pL10
      generalize upd H10 row (.lst (((3 - m1) :: mr).map V.int)) = H11 at W11 na11 nb11 ha11 hl11 hrow11 pL11
      have bm1 := bms m1 List.mem_cons_self
      have bms' : ∀ m ∈ (3 - m1) :: mr, 0 ≤ m ∧ m < 4 := fun m hm => by
        rcases List.mem_cons.mp hm with z | z
        · rw [z]; omega
        · exact bms m (List.mem_cons_of_mem _ z)
      have nem : ¬ (m1 :: mr = (3 - m1) :: mr) := fun z => by
        have := (List.cons.inj z).1
        omega
      have l1000 : (m1 :: mr).length < 1000 := by omega
      have l1000' : ((3 - m1) :: mr).length < 1000 := by simp only [List.length_cons] at l1000 ⊢; omega
      have L1000 : L.length < 1000 := by omega
      have rp := rep_net (ms := m1 :: mr) (L := L) bms (by omega) rL (by omega)
      clear W6 ha6 hl6 pL6 hx6 pmE lE rE
      walk_at "rd"
      obtain ⟨dx, pm, pn, pl, qs', pss, hN, hpm, hpn, hqs, hpl, hps'⟩ := nb11.ob
      refine ⟨s2, _, dx, _, _, rfl, hN, T.C_Network, T.A_Network_modes, look_modes, ?_⟩
      walk_at "rd"
      refine ⟨s2, _, dx, _, _, rfl, hN, T.C_Network, T.A_Network_links, look_links, ?_⟩
      walk_at "rd"
      intro tt H12 z12 S12 htt
      walk_at "rd"
      refine rd_repr (dp_net htt (hpm.same S12) (Tup.of (S12 _ _ hpl)) (pairs_same hps' S12)) rp.s rp.n rp.h rp.l ?_
      walk_at "rd"
      refine rd_tupL (S12 _ _ ha11) ?_
      intro u1 H13 z13 S13 hu1
      walk_at "rd"
      refine rd_tupL (S13 _ _ (S12 _ _ hl11)) ?_
      intro u2 H14 z14 S14 hu2
      walk_at "rd"
      intro u3 H15 z15 S15 hu3
      walk_at "rd"
      have S1115 : Same H11 H15 := ((S12.trans S13).trans S14).trans S15
      refine rd_repr (dp_net hu3 (Tup.of (S15 _ _ (S14 _ _ hu1))) (Tup.of (S15 _ _ hu2)) (pairs_same pL11 S1115)) rp.s rp.n rp.h rp.l ?_
      refine rd_neS ?_
      walk_at "rd"
      refine iteF' (by simp) ?_
      have W15 := W11.same S1115
      have na15 := net_nl na11 fun a o h _ _ => S1115 a o h
      have nb15 := net_nl nb11 fun a o h _ _ => S1115 a o h
      have ha15 := S1115 _ _ ha11
      have hl15 := S1115 _ _ hl11
      have hrow15 := S1115 _ _ hrow11
      have pL15 := pairs_same pL11 S1115
      clear S12 S13 S14 S15 S1115 hN hpm hpn hqs hpl hps' htt hu1 hu2 hu3 W11 na11 nb11 ha11 hl11 hrow11 pL11
      walk_at "rd"
      refine rd_ownN T.I_Network nb15 na15 l1000 L1000 l1000 L1000 ?_
      have e1 : (false != (decide (m1 :: mr = m1 :: mr) && decide (L = L))) = true := by simp
      have e2 : (true != (decide (m1 :: mr = m1 :: mr) && decide (L = L))) = false := by simp
      rw [e1]
      walk_at "rd"
      refine iteF' rfl ?_
      walk_at "rd"
      refine rd_ownN T.I_Network nb15 na15 l1000 L1000 l1000 L1000 ?_
      rw [e2]
      walk_at "rd"
      refine rd_tupL ha15 ?_
      intro u1 H16 z16 S16 hu1
      walk_at "rd"
      refine rd_tupL (S16 _ _ hl15) ?_
      intro u2 H17 z17 S17 hu2
      walk_at "rd"
      intro u3 H18 z18 S18 hu3
      have S1518 : Same H15 H18 := (S16.trans S17).trans S18
      have nb18 := net_nl nb15 fun a o h _ _ => S1518 a o h
      refine rd_ownT nb18 (Tup.of hu3) l1000 L1000 nf kt ?_
      walk_at "rd"
      have W18 := W15.same S1518
      have na18 := net_nl na15 fun a o h _ _ => S1518 a o h
      have ha18 := S1518 _ _ ha15
      have hl18 := S1518 _ _ hl15
      have hrow18 := S1518 _ _ hrow15
      have pL18 := pairs_same pL15 S1518
      clear S16 S17 S18 S1518 hu1 hu2 hu3 W15 na15 nb15 ha15 hl15 hrow15 pL15
      refine iteF' rfl ?_
      walk_at "rd"
      refine rd_make ?_
      walk_at "rd"
      intro s3 dx3 hs3 hd3 _
      refine net_good (ms := (3 - m1) :: mr) hs3 hd3 (.lst hrow18) (by simp) l1000' bms' (.lst hl18) (lk_pairs pL18 rLn) g srt (norm_good g) (fun H19 R19 S19 net3 => ⟨rfl, ?_⟩)
      have nb19 := net_nl nb18 fun a o h _ _ => S19 a o h
      refine rd_ownN T.I_Network nb19 net3 l1000 L1000 l1000' L1000 ?_
      have e3 : (false != (decide (m1 :: mr = (3 - m1) :: mr) && decide (L = L))) = false := by rw [decide_eq_false nem]; rfl
      rw [e3]
      walk_at "rd"
      intro e H20 z20 S20 he
      have S1820 := S19.trans S20
      have hl20 := S1820 _ _ hl18
      have pL20 := pairs_same pL18 S1820
      have nb20 := net_nl nb18 fun a o h _ _ => S1820 a o h
      refine ⟨_, _, .lst (SqL.of hl20) (dp_pairs pL20), .lst (ds := []) (SqL.of he) .nil, dP_shL L, by decide, _, rfl, ?_⟩
      have eN : PyData.eqv (.list (L.map dP)) (.list ([] : List PyData)) = decide (L = []) := by cases L <;> rfl
      rw [eN]
      have W20 := W18.same S1820
      have na20 := net_nl na18 fun a o h _ _ => S1820 a o h
      have ha20 := S1820 _ _ ha18
      clear W18 na18 nb18 ha18 hl18 hrow18 pL18 S1820 S19 S20 nb19 net3
      by_cases hL : L = []
      case' pos =>
        refine iteF' (by simp [hL]) ?_
        have Wz := W20
        have naz := na20
        have haz := ha20
        have hlz := hl20
        have pLz := pL20
      case' neg =>
        refine iteT' (by simp [hL]) ?_
        walk_at "rd"
        refine rd_make ?_
        walk_at "rd"
        refine rd_slL hl20 ?_
        have lps0 : 1 ≤ (ps.map V.ref).length := by
          rw [List.length_map, lpsL]
          exact List.length_pos_iff.mpr hL
        rw [cut_drop _ (by decide) (by omega)]
        intro c1 H21 z21 S21 hc1
        walk_at "rd"
        intro s4 dx4 hs4 hd4 _
        have hd1 : ((1 : Int).toNat) = 1 := rfl
        rw [hd1, ← List.map_drop] at hc1
        have gT : Good (m1 :: mr).length 4 (L.drop 1) := by
          cases L with
          | nil => exact absurd rfl hL
          | cons x L => exact good_tail g
        have sT : (L.drop 1).Pairwise lexlt := srt.drop
        refine net_good (ms := m1 :: mr) (L := L.drop 1) (M := L.drop 1) hs4 hd4 (.lst (S21 _ _ ha20)) (by simp) l1000 bms (.lst hc1) (lk_pairs (paired_drop (pairs_same pL20 S21) 1) gT.rng) gT sT (norm_good gT) (fun H22 R22 S22 net4 => ⟨rfl, ?_⟩)
        have S2022 := S21.trans S22
        have nb22 := net_nl nb20 fun a o h _ _ => S2022 a o h
        have neL : ¬ (L = L.drop 1) := fun z => by
          have := congrArg List.length z
          rw [List.length_drop] at this
          have : 0 < L.length := List.length_pos_iff.mpr hL
          omega
        refine rd_ownN T.I_Network nb22 net4 l1000 L1000 l1000 (by rw [List.length_drop]; omega) ?_
        have e4 : (false != (decide (m1 :: mr = m1 :: mr) && decide (L = L.drop 1))) = false := by rw [decide_eq_false neL]; simp
        rw [e4]
        walk_at "rd"
        have Wz := W20.same S2022
        have naz := net_nl na20 fun a o h _ _ => S2022 a o h
        have haz := S2022 _ _ ha20
        have hlz := S2022 _ _ hl20
        have pLz := pairs_same pL20 S2022
      all_goals
        clear W20 na20 ha20 hl20 pL20
        walk_at "rd"
        refine ⟨p, q, a', .ref l, m1 :: mr, rfl, ⟨Wz.d, Wz.t, Kp.refl⟩, haz, ap, aq, m0, by omega, bms, fun H24 W24 => ?_⟩
        have ha24 := W24.k.ls _ _ ap aq haz
        have hl24 := W24.k.ls _ _ lp lq hlz
        have pL24 := W24.k.pairs pLz
        have na24 := W24.k.net naz
        walk_at "rd"
        refine iteF' rfl ?_
        walk_at "rd"
        refine ⟨p, q, a', l, m1 :: mr, ps, L, rfl, ⟨W24.d, W24.t, Kp.refl⟩, ha24, ap, aq, m0, by omega, bms, hl24, lp, lq, pL24, g, by omega, fun H25 W25 => ?_⟩
        have ha25 := W25.k.ls _ _ ap aq ha24
        have hl25 := W25.k.ls _ _ lp lq hl24
        have pL25 := W25.k.pairs pL24
        have na25 := W25.k.net na24
        walk_at "rd"
        refine iteF' rfl ?_
        walk_at "rd"
        obtain ⟨dx, pm, pn, pl, qs', pss, hN, hpm, hpn, hqs, hpl, hps'⟩ := na25.ob
        refine ⟨s1, _, dx, _, _, rfl, hN, T.C_Network, T.A_Network_modes, look_modes, ?_⟩
        walk_at "rd"
        refine ⟨s1, _, dx, _, _, rfl, hN, T.C_Network, T.A_Network_links, look_links, ?_⟩
        walk_at "rd"
        intro tt H26 z26 S26 htt
        walk_at "rd"
        refine rd_repr (dp_net htt (hpm.same S26) (Tup.of (S26 _ _ hpl)) (pairs_same hps' S26)) rp.s rp.n rp.h rp.l ?_
        walk_at "rd"
        refine rd_tupL (S26 _ _ ha25) ?_
        intro u1 H27 z27 S27 hu1
        walk_at "rd"
        refine rd_tupL (S27 _ _ (S26 _ _ hl25)) ?_
        intro u2 H28 z28 S28 hu2
        walk_at "rd"
        intro u3 H29 z29 S29 hu3
        walk_at "rd"
        have S2529 := ((S26.trans S27).trans S28).trans S29
        refine rd_repr (dp_net hu3 (Tup.of (S29 _ _ (S28 _ _ hu1))) (Tup.of (S29 _ _ hu2)) (pairs_same pL25 S2529)) rp.s rp.n rp.h rp.l ?_
        refine rd_neS ?_
        walk_at "rd"
        refine iteF' (by simp) ?_
        walk_at "rd"
        have W29 := W25.same S2529
        exact ⟨⟨_, _, _, _, _, _, _, _, _, rfl⟩, W29.d, W29.t⟩
  · obtain ⟨⟨o2, o3, o4, o5, o6, o7, o8, o9, o10, rfl⟩, d1, T1⟩ := pv
    walk_at "rd"
    exact ⟨p, q, rfl, ⟨d1, T1, Kp.refl⟩, fun H' _ => hQ H'⟩
end
end K04

namespace K04
open PySem PySem.Spec PyProof.Rows L2 L2H KX
/-! what the top has written, as one test -/
def ClsAt (K : PySem.W.Frag) (c : Addr) : Prop := ∃ nm q N bs bm sn sub ab col dd k0 k1 k2 k3 k5,
  K.lookup c = some (excClassObj nm q c N bs bm true sn sub ab col dd k0 k1 k2 k3 k5 "ValueError.__new__") ∧ PySem.HandSPX.refsVE bm = true
def IniAt (K : PySem.W.Frag) (qn : Str) (f : Addr) : Prop :=
  ∃ (oc : Value) (od : Option Addr) (doc pm : Value) (an : Option Addr) (cdv ct : Value) (osl : Array (Option Value)) (p1 p2 q1 q2 q3 q4 : Pos),
    K.lookup f = some ⟨oc, od, .func (PySem.W.fnOf "__init__" qn (PySem.ErrX.iA p1 p2) (PySem.ErrX.iB q1 q2 q3 q4) PySem.ErrX.iS .none .none doc pm an cdv ct), osl⟩ ∧
      PySem.W.codeIn K cdv qn = true
def okE (K : PySem.W.Frag) (c f cn : Addr) : Bool :=
  xfB K c && (decide (PySem.W.findIn K (.ref c) "at" = some none) &&
  (decide (PySem.W.findIn K (.ref c) "__setattr__" = some (some (.builtin "object.__setattr__"))) &&
  (decide (PySem.W.findIn K (.ref c) "__init__" = some (some (.ref f))) &&
  (decide (PySem.W.typeIn K (.ref f) = some (.type "function")) && (PySem.W.keepIn K (.ref c) &&
  (decide (PySem.W.typeIn K (.ref c) = some (.type "type")) && (decide (PySem.W.exmOne K (.ref c) (.ref c) = some true) &&
  (decide (PySem.W.findIn K (.ref c) "__class__" = some (some (.builtin "object.__class__"))) &&
  (decide (PySem.W.specialIn K (.builtin "object.__class__") "__get__" = some (some (.builtin "getset_descriptor.__get__"))) &&
  (decide (PySem.W.takesIn K (.builtin "object.__class__") = some true) && (decide (PySem.W.mroIn K c (.type "object") = some true) &&
  (decide (PySem.W.kitOne K (.ref c) (.type "ValueError") = some true) &&
   decide (PySem.W.exmOne K (.ref c) (.ref cn) = some true)))))))))))))
structure OkE (K : PySem.W.Frag) (c f cn : Addr) : Prop where
  xf : XfC K c
  no : PySem.W.findIn K (.ref c) "at" = some none
  sa : PySem.W.findIn K (.ref c) "__setattr__" = some (some (.builtin "object.__setattr__"))
  ini : PySem.W.findIn K (.ref c) "__init__" = some (some (.ref f))
  tf : PySem.W.typeIn K (.ref f) = some (.type "function")
  kc : PySem.W.keepIn K (.ref c) = true
  ty : PySem.W.typeIn K (.ref c) = some (.type "type")
  te : PySem.W.exmOne K (.ref c) (.ref c) = some true
  ha : PySem.W.findIn K (.ref c) "__class__" = some (some (.builtin "object.__class__"))
  hn : PySem.W.specialIn K (.builtin "object.__class__") "__get__" = some (some (.builtin "getset_descriptor.__get__"))
  ht : PySem.W.takesIn K (.builtin "object.__class__") = some true
  hm : PySem.W.mroIn K c (.type "object") = some true
  ve : PySem.W.kitOne K (.ref c) (.type "ValueError") = some true
  exm : PySem.W.exmOne K (.ref c) (.ref cn) = some true
theorem okE_ok {K : PySem.W.Frag} {c f cn : Addr} (h : okE K c f cn = true) : OkE K c f cn := by
  unfold okE at h
  simp only [Bool.and_eq_true, decide_eq_true_eq] at h
  obtain ⟨h1, h2, h3, h4, h5, h6, h7, h8, h9, h10, h11, h12, h13, h14⟩ := h
  exact ⟨xfB_ok h1, h2, h3, h4, h5, h6, h7, h8, h9, h10, h11, h12, h13, h14⟩
theorem err_of {K : PySem.W.Frag} {mg : Str → Option Value} {en qn : Str} {c f cn : Addr} (z : OkE K c f cn)
    (g : mg en = some (.ref c)) (hc : ClsAt K c) (hf : IniAt K qn f) : PySem.ErrX.ErrTxt K mg en qn c f :=
  ⟨g, hc, z.sa, z.xf.ga, z.xf.gg, z.no, z.ini, z.tf, z.kc, z.xf.exC, z.ty, z.xf.hdC, z.te, hf⟩
/-- a def of the top, or of a class, at f -/
def DefAt (K : PySem.W.Frag) (x q : Str) (st : Stmt) (f : Addr) : Prop :=
  ∃ (oc : Value) (od : Option Addr) (kV doc pm : Value) (an : Option Addr) (cdv ct : Value) (osl : Array (Option Value)),
    K.lookup f = some ⟨oc, od, .func (PySem.W.fnOf x q (defArgs st) (defBody st) (defScope st) .none kV doc pm an cdv ct), osl⟩ ∧
      PySem.W.codeIn K cdv q = true
theorem fun_of {K : PySem.W.Frag} {x q : Str} {st : Stmt} {f : Addr} (h : DefAt K x q st f) (k : PySem.W.keepIn K (.ref f) = true) :
    ∃ fd kV doc pm an cdv ct, fd = PySem.W.fnOf x q (defArgs st) (defBody st) (defScope st) .none kV doc pm an cdv ct ∧ Fun K x q st f fd := by
  obtain ⟨oc, od, kV, doc, pm, an, cdv, ct, osl, l, c⟩ := h
  exact ⟨_, kV, doc, pm, an, cdv, ct, rfl, fun_mk l c k⟩
/-- a def whose code object is known -/
def DefCAt (K : PySem.W.Frag) (x : Str) (st : Stmt) (f c : Addr) : Prop :=
  ∃ (oc : Value) (od : Option Addr) (kV doc pm : Value) (an : Option Addr) (ct : Value) (osl : Array (Option Value)),
    K.lookup f = some ⟨oc, od, .func (PySem.W.fnOf x x (defArgs st) (defBody st) (defScope st) .none kV doc pm an (.ref c) ct), osl⟩ ∧ PySem.W.codeIn K (.ref c) x = true
theorem defC_of {K : PySem.W.Frag} {x : Str} {st : Stmt} {f c : Addr} (h : DefCAt K x st f c) (k : PySem.W.keepIn K (.ref f) = true) : ∃ fd, DefC K x st f c fd ∧ Fun K x x st f fd := by
  obtain ⟨oc, od, kV, doc, pm, an, ct, osl, l, hc⟩ := h
  exact ⟨_, ⟨oc, od, kV, doc, pm, an, ct, osl, rfl, l, hc⟩, fun_mk l hc k⟩
/-- what is asked of a class with an own == -/
def okC (K : PySem.W.Frag) (c i e : Addr) (fs : List Str) : Bool :=
  PySem.W.plainGet K c Str.empty && (PySem.W.hasDictIn K c && (PySem.W.plainOver K c &&
  (decide (PySem.W.findIn K (.ref c) "__setattr__" = some (some (.builtin "object.__setattr__"))) &&
  (fs.all (fun f => decide (PySem.W.findIn K (.ref c) f = some none)) && (PySem.W.makesIn K c &&
  (decide (PySem.W.findIn K (.ref c) "__init__" = some (some (.ref i))) && (PySem.W.isFn K (.ref i) && (PySem.W.keepIn K (.ref c) &&
  (decide (PySem.W.findIn K (.ref c) "__class__" = some (some (.builtin "object.__class__"))) &&
  (decide (PySem.W.specialIn K (.builtin "object.__class__") "__get__" = some (some (.builtin "getset_descriptor.__get__"))) &&
  (decide (PySem.W.takesIn K (.builtin "object.__class__") = some true) && (decide (PySem.W.mroIn K c (.type "object") = some true) &&
  (decide (PySem.W.kitOne K (.ref c) (.ref c) = some true) &&
  (decide (PySem.W.findIn K (.ref c) "__eq__" = some (some (.ref e))) && (PySem.W.isFn K (.ref e) &&
  (decide (PySem.W.findIn K (.ref c) "__ne__" = some (some (.builtin "object.__ne__"))) &&
  (PySem.W.notFirst K c (.type "tuple") && decide (PySem.W.kitOne K (.type "tuple") (.ref c) = some false))))))))))))))))))
structure KCl (K : PySem.W.Frag) (c i e : Addr) (fs : List Str) : Prop where
  cls : Cls K c
  no : ∀ f ∈ fs, NoAttr K c f
  mks : Mk K c i
  isi : IsCls K c
  own : OwnC K c e
  nf : PySem.W.notFirst K c (.type "tuple") = true
  kt : PySem.W.kitOne K (.type "tuple") (.ref c) = some false
theorem okC_ok {K : PySem.W.Frag} {c i e : Addr} {fs : List Str} (h : okC K c i e fs = true) : KCl K c i e fs := by
  unfold okC at h
  simp only [Bool.and_eq_true, decide_eq_true_eq, List.all_eq_true] at h
  obtain ⟨h1, h2, h3, h4, h5, h6, h7, h8, h9, h10, h11, h12, h13, h14, h15, h16, h17, h18, h19⟩ := h
  have C : Cls K c := ⟨h1, h2, h3, h4⟩
  exact ⟨C, fun f hf => h5 f hf, ⟨h6, h7, h8, h9⟩, ⟨C, h10, h11, h12, h13, h14⟩, ⟨h15, h16, h17, h13⟩, h18, h19⟩
theorem all3 {α : Type} {P : α → Prop} {x y z : α} (a : P x) (b : P y) (c : P z) : ∀ p ∈ [x, y, z], P p := fun p hp => by
  simp only [List.mem_cons, List.not_mem_nil, or_false] at hp
  rcases hp with rfl | rfl | rfl <;> assumption
theorem all_mk {l : PySem.W.OpenLaw} {w : World} {K : PySem.W.Frag} {h : Heap} {mg : Str → Option Value} {fa : Addr} (X : K.In h)
    (G : h.Ns mainGlobals mg) (hfa : mg "law" = some (.ref fa))
    {f_is_integer f_is_number f_is_below f_is_sequence f_is_mode f_checked_modes f_linked_sites f_can_link f__law_draw f__law_any f__law_of f__law_links f__law_network f__law_mixed f__law_refused f_law f_Network_init f_Network_eq cQ cn fQ cC fM fL fR cM cL cR tM tL tR : Addr} {t_MOST_MODES t_MOST_NEIGHBOURS : Tok}
    (aQ : PySem.W.nsIn K mainGlobals "InvalidNetwork" = some (some (.ref cQ)))
    (aN : PySem.W.nsIn K mainGlobals "NetError" = some (some (.ref cn)))
    (iQ : PySem.W.findIn K (.ref cQ) "__init__" = some (some (.ref fQ)))
    (okx : okE K cQ fQ cn = true)
    (kit : PySem.W.kitOne K (.ref cQ) (.ref cn) = some true)
    (xQ : ClsAt K cQ)
    (yQ : IniAt K "InvalidNetwork.__init__" fQ)
    (g_MOST_MODES : PySem.W.nsIn K mainGlobals "MOST_MODES" = some (some (.int 4 t_MOST_MODES)))
    (g_MOST_NEIGHBOURS : PySem.W.nsIn K mainGlobals "MOST_NEIGHBOURS" = some (some (.int 4 t_MOST_NEIGHBOURS)))
    (g_is_integer : PySem.W.nsIn K mainGlobals "is_integer" = some (some (.ref f_is_integer)))
    (e_is_integer : DefAt K "is_integer" "is_integer" s_is_integer f_is_integer)
    (k_is_integer : PySem.W.keepIn K (.ref f_is_integer) = true)
    (g_is_number : PySem.W.nsIn K mainGlobals "is_number" = some (some (.ref f_is_number)))
    (e_is_number : DefAt K "is_number" "is_number" s_is_number f_is_number)
    (k_is_number : PySem.W.keepIn K (.ref f_is_number) = true)
    (g_is_below : PySem.W.nsIn K mainGlobals "is_below" = some (some (.ref f_is_below)))
    (e_is_below : DefAt K "is_below" "is_below" s_is_below f_is_below)
    (k_is_below : PySem.W.keepIn K (.ref f_is_below) = true)
    (g_is_sequence : PySem.W.nsIn K mainGlobals "is_sequence" = some (some (.ref f_is_sequence)))
    (e_is_sequence : DefAt K "is_sequence" "is_sequence" s_is_sequence f_is_sequence)
    (k_is_sequence : PySem.W.keepIn K (.ref f_is_sequence) = true)
    (g_is_mode : PySem.W.nsIn K mainGlobals "is_mode" = some (some (.ref f_is_mode)))
    (e_is_mode : DefAt K "is_mode" "is_mode" s_is_mode f_is_mode)
    (k_is_mode : PySem.W.keepIn K (.ref f_is_mode) = true)
    (g_checked_modes : PySem.W.nsIn K mainGlobals "checked_modes" = some (some (.ref f_checked_modes)))
    (e_checked_modes : DefAt K "checked_modes" "checked_modes" s_checked_modes f_checked_modes)
    (k_checked_modes : PySem.W.keepIn K (.ref f_checked_modes) = true)
    (g_linked_sites : PySem.W.nsIn K mainGlobals "linked_sites" = some (some (.ref f_linked_sites)))
    (e_linked_sites : DefAt K "linked_sites" "linked_sites" s_linked_sites f_linked_sites)
    (k_linked_sites : PySem.W.keepIn K (.ref f_linked_sites) = true)
    (g_can_link : PySem.W.nsIn K mainGlobals "can_link" = some (some (.ref f_can_link)))
    (e_can_link : DefAt K "can_link" "can_link" s_can_link f_can_link)
    (k_can_link : PySem.W.keepIn K (.ref f_can_link) = true)
    (g__law_draw : PySem.W.nsIn K mainGlobals "_law_draw" = some (some (.ref f__law_draw)))
    (e__law_draw : DefAt K "_law_draw" "_law_draw" s__law_draw f__law_draw)
    (k__law_draw : PySem.W.keepIn K (.ref f__law_draw) = true)
    (g__law_any : PySem.W.nsIn K mainGlobals "_law_any" = some (some (.ref f__law_any)))
    (e__law_any : DefAt K "_law_any" "_law_any" s__law_any f__law_any)
    (k__law_any : PySem.W.keepIn K (.ref f__law_any) = true)
    (g__law_of : PySem.W.nsIn K mainGlobals "_law_of" = some (some (.ref f__law_of)))
    (e__law_of : DefAt K "_law_of" "_law_of" s__law_of f__law_of)
    (k__law_of : PySem.W.keepIn K (.ref f__law_of) = true)
    (g__law_links : PySem.W.nsIn K mainGlobals "_law_links" = some (some (.ref f__law_links)))
    (e__law_links : DefAt K "_law_links" "_law_links" s__law_links f__law_links)
    (k__law_links : PySem.W.keepIn K (.ref f__law_links) = true)
    (g__law_network : PySem.W.nsIn K mainGlobals "_law_network" = some (some (.ref f__law_network)))
    (e__law_network : DefAt K "_law_network" "_law_network" s__law_network f__law_network)
    (k__law_network : PySem.W.keepIn K (.ref f__law_network) = true)
    (g__law_mixed : PySem.W.nsIn K mainGlobals "_law_mixed" = some (some (.ref f__law_mixed)))
    (e__law_mixed : DefAt K "_law_mixed" "_law_mixed" s__law_mixed f__law_mixed)
    (k__law_mixed : PySem.W.keepIn K (.ref f__law_mixed) = true)
    (g__law_refused : PySem.W.nsIn K mainGlobals "_law_refused" = some (some (.ref f__law_refused)))
    (e__law_refused : DefAt K "_law_refused" "_law_refused" s__law_refused f__law_refused)
    (k__law_refused : PySem.W.keepIn K (.ref f__law_refused) = true)
    (g_law : PySem.W.nsIn K mainGlobals "law" = some (some (.ref f_law)))
    (e_law : DefAt K "law" "law" s_law f_law)
    (k_law : PySem.W.keepIn K (.ref f_law) = true)
    (g_Network : PySem.W.nsIn K mainGlobals "Network" = some (some (.ref cC)))
    (j_Network_init : PySem.W.findIn K (.ref cC) "__init__" = some (some (.ref f_Network_init)))
    (j_Network_eq : PySem.W.findIn K (.ref cC) "__eq__" = some (some (.ref f_Network_eq)))
    (okc : okC K cC f_Network_init f_Network_eq ["modes", "_near", "links"] = true)
    (e_Network_init : DefAt K "__init__" "Network.__init__" s_Network_init f_Network_init)
    (k_Network_init : PySem.W.keepIn K (.ref f_Network_init) = true)
    (e_Network_eq : DefAt K "__eq__" "Network.__eq__" s_Network_eq f_Network_eq)
    (k_Network_eq : PySem.W.keepIn K (.ref f_Network_eq) = true)
    (gM : PySem.W.nsIn K mainGlobals "_law_modes_refused" = some (some (.ref fM)))
    (eM : DefCAt K "_law_modes_refused" s__law_modes_refused fM cM)
    (kM : PySem.W.keepIn K (.ref fM) = true)
    (gL : PySem.W.nsIn K mainGlobals "_law_links_refused" = some (some (.ref fL)))
    (eL : DefCAt K "_law_links_refused" s__law_links_refused fL cL)
    (kL : PySem.W.keepIn K (.ref fL) = true)
    (gR : PySem.W.nsIn K mainGlobals "_law_fifth_right" = some (some (.ref fR)))
    (eR : DefCAt K "_law_fifth_right" s__law_fifth_right fR cR)
    (kR : PySem.W.keepIn K (.ref fR) = true)
    (neML : tM ≠ tL)
    (neMR : tM ≠ tR)
    (neLR : tL ≠ tR)
    (z_int : PySem.W.nsIn K mainGlobals "int" = some none)
    (z_bool : PySem.W.nsIn K mainGlobals "bool" = some none)
    (z_abs : PySem.W.nsIn K mainGlobals "abs" = some none)
    (z_len : PySem.W.nsIn K mainGlobals "len" = some none)
    (z_min : PySem.W.nsIn K mainGlobals "min" = some none)
    (z_max : PySem.W.nsIn K mainGlobals "max" = some none)
    (z_sorted : PySem.W.nsIn K mainGlobals "sorted" = some none)
    (z_tuple : PySem.W.nsIn K mainGlobals "tuple" = some none)
    (z_list : PySem.W.nsIn K mainGlobals "list" = some none)
    (z_range : PySem.W.nsIn K mainGlobals "range" = some none)
    (z_repr : PySem.W.nsIn K mainGlobals "repr" = some none)
    (z_isinstance : PySem.W.nsIn K mainGlobals "isinstance" = some none)
    (z_enumerate : PySem.W.nsIn K mainGlobals "enumerate" = some none)
    : ∃ fd : FuncData, (∀ (s : Shared) (u : Value), BindsTo s fd ⟨[u], []⟩ [("script", u)]) ∧
      ∀ base : Heap, K.In base → base.Ns mainGlobals mg → (∀ p ∈ [(cM, tM), (cL, tL), (cR, tR)], LamX.TabB base mg p.1 p.2) → FnR l.prog w K mg base CX0 (CG 11) fa fd ["script"] (spLaw tM tL tR K) := by
  have e := hfa.symm.trans (PySem.W.mg_of X G g_law)
  cases e
  have OK := okE_ok okx
  have EQ : PySem.ErrX.ErrTxt K mg "InvalidNetwork" "InvalidNetwork.__init__" cQ fQ := err_of OK (PySem.W.mg_of X G aQ) xQ yQ
  have IQ : IsQ K cQ cn := ⟨⟨OK.xf.ga, OK.xf.gg, OK.xf.exC, OK.xf.hdC, OK.ha, OK.hn, OK.ht, OK.hm⟩, kit, OK.xf, OK.no, OK.te⟩
  have KC := okC_ok okc
  obtain ⟨d_is_integer, _, _, _, _, _, _, _, F_is_integer⟩ := fun_of e_is_integer k_is_integer
  obtain ⟨d_is_number, _, _, _, _, _, _, _, F_is_number⟩ := fun_of e_is_number k_is_number
  obtain ⟨d_is_below, _, _, _, _, _, _, _, F_is_below⟩ := fun_of e_is_below k_is_below
  obtain ⟨d_is_sequence, _, _, _, _, _, _, _, F_is_sequence⟩ := fun_of e_is_sequence k_is_sequence
  obtain ⟨d_is_mode, _, _, _, _, _, _, _, F_is_mode⟩ := fun_of e_is_mode k_is_mode
  obtain ⟨d_checked_modes, _, _, _, _, _, _, _, F_checked_modes⟩ := fun_of e_checked_modes k_checked_modes
  obtain ⟨d_linked_sites, _, _, _, _, _, _, _, F_linked_sites⟩ := fun_of e_linked_sites k_linked_sites
  obtain ⟨d_can_link, _, _, _, _, _, _, _, F_can_link⟩ := fun_of e_can_link k_can_link
  obtain ⟨d__law_draw, _, _, _, _, _, _, _, F__law_draw⟩ := fun_of e__law_draw k__law_draw
  obtain ⟨d__law_any, _, _, _, _, _, _, _, F__law_any⟩ := fun_of e__law_any k__law_any
  obtain ⟨d__law_of, _, _, _, _, _, _, _, F__law_of⟩ := fun_of e__law_of k__law_of
  obtain ⟨d__law_links, _, _, _, _, _, _, _, F__law_links⟩ := fun_of e__law_links k__law_links
  obtain ⟨d__law_network, _, _, _, _, _, _, _, F__law_network⟩ := fun_of e__law_network k__law_network
  obtain ⟨d__law_mixed, _, _, _, _, _, _, _, F__law_mixed⟩ := fun_of e__law_mixed k__law_mixed
  obtain ⟨d__law_refused, _, _, _, _, _, _, _, F__law_refused⟩ := fun_of e__law_refused k__law_refused
  obtain ⟨d_law, u1, u2, u3, u4, u5, u6, eu, F_law⟩ := fun_of e_law k_law
  obtain ⟨d_Network_init, _, _, _, _, _, _, _, F_Network_init⟩ := fun_of e_Network_init k_Network_init
  obtain ⟨d_Network_eq, _, _, _, _, _, _, _, F_Network_eq⟩ := fun_of e_Network_eq k_Network_eq
  obtain ⟨dM, DM, FM⟩ := defC_of eM kM
  have bM := FM.binds (ps := ["deal", "modes", "links"]) fun _ _ _ _ _ _ us hl => match us, hl with | [_, _, _], _ => rfl
  obtain ⟨dL, DL, FL⟩ := defC_of eL kL
  have bL := FL.binds (ps := ["deal", "modes", "links"]) fun _ _ _ _ _ _ us hl => match us, hl with | [_, _, _], _ => rfl
  obtain ⟨dR, DR, FR⟩ := defC_of eR kR
  have bR := FR.binds (ps := ["deal"]) fun _ _ _ _ _ _ us hl => match us, hl with | [_], _ => rfl
  let T : TX K mg := {
    f_is_integer := f_is_integer, d_is_integer := d_is_integer, F_is_integer := F_is_integer, m_is_integer := PySem.W.mg_of X G g_is_integer,
    f_is_number := f_is_number, d_is_number := d_is_number, F_is_number := F_is_number, m_is_number := PySem.W.mg_of X G g_is_number,
    f_is_below := f_is_below, d_is_below := d_is_below, F_is_below := F_is_below, m_is_below := PySem.W.mg_of X G g_is_below,
    f_is_sequence := f_is_sequence, d_is_sequence := d_is_sequence, F_is_sequence := F_is_sequence, m_is_sequence := PySem.W.mg_of X G g_is_sequence,
    f_is_mode := f_is_mode, d_is_mode := d_is_mode, F_is_mode := F_is_mode, m_is_mode := PySem.W.mg_of X G g_is_mode,
    f_checked_modes := f_checked_modes, d_checked_modes := d_checked_modes, F_checked_modes := F_checked_modes, m_checked_modes := PySem.W.mg_of X G g_checked_modes,
    f_linked_sites := f_linked_sites, d_linked_sites := d_linked_sites, F_linked_sites := F_linked_sites, m_linked_sites := PySem.W.mg_of X G g_linked_sites,
    f_can_link := f_can_link, d_can_link := d_can_link, F_can_link := F_can_link, m_can_link := PySem.W.mg_of X G g_can_link,
    f__law_draw := f__law_draw, d__law_draw := d__law_draw, F__law_draw := F__law_draw, m__law_draw := PySem.W.mg_of X G g__law_draw,
    f__law_any := f__law_any, d__law_any := d__law_any, F__law_any := F__law_any, m__law_any := PySem.W.mg_of X G g__law_any,
    f__law_of := f__law_of, d__law_of := d__law_of, F__law_of := F__law_of, m__law_of := PySem.W.mg_of X G g__law_of,
    f__law_links := f__law_links, d__law_links := d__law_links, F__law_links := F__law_links, m__law_links := PySem.W.mg_of X G g__law_links,
    f__law_network := f__law_network, d__law_network := d__law_network, F__law_network := F__law_network, m__law_network := PySem.W.mg_of X G g__law_network,
    f__law_mixed := f__law_mixed, d__law_mixed := d__law_mixed, F__law_mixed := F__law_mixed, m__law_mixed := PySem.W.mg_of X G g__law_mixed,
    f__law_refused := f__law_refused, d__law_refused := d__law_refused, F__law_refused := F__law_refused, m__law_refused := PySem.W.mg_of X G g__law_refused,
    f_law := fa, d_law := d_law, F_law := F_law, m_law := PySem.W.mg_of X G g_law,
    n_int := PySem.W.mg_none_of X G z_int,
    n_bool := PySem.W.mg_none_of X G z_bool,
    n_abs := PySem.W.mg_none_of X G z_abs,
    n_len := PySem.W.mg_none_of X G z_len,
    n_min := PySem.W.mg_none_of X G z_min,
    n_max := PySem.W.mg_none_of X G z_max,
    n_sorted := PySem.W.mg_none_of X G z_sorted,
    n_tuple := PySem.W.mg_none_of X G z_tuple,
    n_list := PySem.W.mg_none_of X G z_list,
    n_range := PySem.W.mg_none_of X G z_range,
    n_repr := PySem.W.mg_none_of X G z_repr,
    n_isinstance := PySem.W.mg_none_of X G z_isinstance,
    n_enumerate := PySem.W.mg_none_of X G z_enumerate,
    t_MOST_MODES := t_MOST_MODES, m_MOST_MODES := PySem.W.mg_of X G g_MOST_MODES,
    t_MOST_NEIGHBOURS := t_MOST_NEIGHBOURS, m_MOST_NEIGHBOURS := PySem.W.mg_of X G g_MOST_NEIGHBOURS,
    c_InvalidNetwork := cQ, i_InvalidNetwork := fQ, E_InvalidNetwork := EQ,
    c_Network := cC, m_Network := PySem.W.mg_of X G g_Network, C_Network := KC.cls,
    A_Network_modes := KC.no "modes" (by decide),
    A_Network__near := KC.no "_near" (by decide),
    A_Network_links := KC.no "links" (by decide),
    f_Network_init := f_Network_init, d_Network_init := d_Network_init, F_Network_init := F_Network_init,
    f_Network_eq := f_Network_eq, d_Network_eq := d_Network_eq, F_Network_eq := F_Network_eq,
    M_Network := KC.mks, I_Network := KC.isi, O_Network := KC.own }
  refine ⟨d_law, fun s v => by rw [eu]; exact .of_eq rfl, fun base _ _ TB => ?_⟩
  have B : Tb base mg cM tM cL tL cR tR := ⟨TB _ (.head _), TB _ (.tail _ (.head _)), TB _ (.tail _ (.tail _ (.head _))), neML, neMR, neLR⟩
  have gN := PySem.W.mg_of X G aN
  have GGM := G__law_modes_refused (P := l.prog) (w := w) (base := base) T B IQ gN DM
  have GGL := G__law_links_refused (P := l.prog) (w := w) (base := base) T B IQ gN DL
  have GGR := G__law_fifth_right (P := l.prog) (w := w) (base := base) T B IQ gN DR
  exact G_law (P := l.prog) (w := w) (base := base) T GGM (PySem.W.mg_of X G gM) kM bM GGL (PySem.W.mg_of X G gL) kL bL GGR (PySem.W.mg_of X G gR) kR bR KC.nf KC.kt
end K04

open PySem PySem.W PyProof.Rows
set_option maxRecDepth 100000 in
set_option maxHeartbeats 0 in
theorem PySem.Challenge.cw_handalong_k04_networks_kept_and_refused_holds : PySem.Challenge.rw_handalong_k04_networks_kept_and_refused.Holds := by
  w_on; o_law; k_head; (case hw => w_witness2)
  k_fill
  refine KX.walk_ofS (l := PySem.Challenge.rw_handalong_k04_networks_kept_and_refused) (n := 63) (k := 11) (x := "script") (CX := L2.CX0) (ts := [(?cM, 199), (?cL, 206), (?cR, 213)]) (sp := K04.spLaw 199 206 213)
    rfl (by decide) rfl ⟨rfl, by decide, by decide⟩ (fun w h Y => km_in_of Y) (fun w h Y => K04.all3 (km_tabs_of Y _ (.tail _ (.tail _ (.head _)))) (km_tabs_of Y _ (.tail _ (.head _))) (km_tabs_of Y _ (.head _))) ?hcd ?nt ?F (fun _ H a ns hl ht hS => ⟨a, ns, rfl, hS, ⟨ht _ (.head _), ht _ (.tail _ (.head _)), ht _ (.tail _ (.tail _ (.head _)))⟩, fun _ => rfl⟩) fun _ _ _ _ z => z
  case F =>
    intro w mg fa h Y G hmg
    refine' K04.all_mk Y G hmg ?aQ ?aN ?iQ ?okx ?kit ?xQ ?yQ ?g_MOST_MODES ?g_MOST_NEIGHBOURS ?g_is_integer ?e_is_integer ?k_is_integer ?g_is_number ?e_is_number ?k_is_number ?g_is_below ?e_is_below ?k_is_below ?g_is_sequence ?e_is_sequence ?k_is_sequence ?g_is_mode ?e_is_mode ?k_is_mode ?g_checked_modes ?e_checked_modes ?k_checked_modes ?g_linked_sites ?e_linked_sites ?k_linked_sites ?g_can_link ?e_can_link ?k_can_link ?g__law_draw ?e__law_draw ?k__law_draw ?g__law_any ?e__law_any ?k__law_any ?g__law_of ?e__law_of ?k__law_of ?g__law_links ?e__law_links ?k__law_links ?g__law_network ?e__law_network ?k__law_network ?g__law_mixed ?e__law_mixed ?k__law_mixed ?g__law_refused ?e__law_refused ?k__law_refused ?g_law ?e_law ?k_law ?g_Network ?j_Network_init ?j_Network_eq ?okc ?e_Network_init ?k_Network_init ?e_Network_eq ?k_Network_eq ?gM ?eM ?kM ?gL ?eL ?kL ?gR ?eR ?kR ?neML ?neMR ?neLR ?z_int ?z_bool ?z_abs ?z_len ?z_min ?z_max ?z_sorted ?z_tuple ?z_list ?z_range ?z_repr ?z_isinstance ?z_enumerate
    (case aQ => k_is)
    (case aN => k_is)
    (case iQ => k_is)
    (case okx => kernel_rfl)
    (case kit => kernel_rfl)
    (case xQ => (refine' ⟨_, _, _, _, _, _, _, _, _, _, _, _, _, _, _, ?h1, ?h2⟩; (case h1 => rfl); (case h2 => decide +kernel)))
    (case yQ => (refine' ⟨_, _, _, _, _, _, _, _, _, _, _, _, _, _, ?h1, ?h2⟩; (case h1 => rfl); (case h2 => k_is)))
    (case g_MOST_MODES => k_is)
    (case g_MOST_NEIGHBOURS => k_is)
    (case g_is_integer => k_is)
    (case e_is_integer => (refine' ⟨_, _, _, _, _, _, _, _, _, ?h1, ?h2⟩; (case h1 => rfl); (case h2 => k_is)))
    (case k_is_integer => k_is)
    (case g_is_number => k_is)
    (case e_is_number => (refine' ⟨_, _, _, _, _, _, _, _, _, ?h1, ?h2⟩; (case h1 => rfl); (case h2 => k_is)))
    (case k_is_number => k_is)
    (case g_is_below => k_is)
    (case e_is_below => (refine' ⟨_, _, _, _, _, _, _, _, _, ?h1, ?h2⟩; (case h1 => rfl); (case h2 => k_is)))
    (case k_is_below => k_is)
    (case g_is_sequence => k_is)
    (case e_is_sequence => (refine' ⟨_, _, _, _, _, _, _, _, _, ?h1, ?h2⟩; (case h1 => rfl); (case h2 => k_is)))
    (case k_is_sequence => k_is)
    (case g_is_mode => k_is)
    (case e_is_mode => (refine' ⟨_, _, _, _, _, _, _, _, _, ?h1, ?h2⟩; (case h1 => rfl); (case h2 => k_is)))
    (case k_is_mode => k_is)
    (case g_checked_modes => k_is)
    (case e_checked_modes => (refine' ⟨_, _, _, _, _, _, _, _, _, ?h1, ?h2⟩; (case h1 => rfl); (case h2 => k_is)))
    (case k_checked_modes => k_is)
    (case g_linked_sites => k_is)
    (case e_linked_sites => (refine' ⟨_, _, _, _, _, _, _, _, _, ?h1, ?h2⟩; (case h1 => rfl); (case h2 => k_is)))
    (case k_linked_sites => k_is)
    (case g_can_link => k_is)
    (case e_can_link => (refine' ⟨_, _, _, _, _, _, _, _, _, ?h1, ?h2⟩; (case h1 => rfl); (case h2 => k_is)))
    (case k_can_link => k_is)
    (case g__law_draw => k_is)
    (case e__law_draw => (refine' ⟨_, _, _, _, _, _, _, _, _, ?h1, ?h2⟩; (case h1 => rfl); (case h2 => k_is)))
    (case k__law_draw => k_is)
    (case g__law_any => k_is)
    (case e__law_any => (refine' ⟨_, _, _, _, _, _, _, _, _, ?h1, ?h2⟩; (case h1 => rfl); (case h2 => k_is)))
    (case k__law_any => k_is)
    (case g__law_of => k_is)
    (case e__law_of => (refine' ⟨_, _, _, _, _, _, _, _, _, ?h1, ?h2⟩; (case h1 => rfl); (case h2 => k_is)))
    (case k__law_of => k_is)
    (case g__law_links => k_is)
    (case e__law_links => (refine' ⟨_, _, _, _, _, _, _, _, _, ?h1, ?h2⟩; (case h1 => rfl); (case h2 => k_is)))
    (case k__law_links => k_is)
    (case g__law_network => k_is)
    (case e__law_network => (refine' ⟨_, _, _, _, _, _, _, _, _, ?h1, ?h2⟩; (case h1 => rfl); (case h2 => k_is)))
    (case k__law_network => k_is)
    (case g__law_mixed => k_is)
    (case e__law_mixed => (refine' ⟨_, _, _, _, _, _, _, _, _, ?h1, ?h2⟩; (case h1 => rfl); (case h2 => k_is)))
    (case k__law_mixed => k_is)
    (case g__law_refused => k_is)
    (case e__law_refused => (refine' ⟨_, _, _, _, _, _, _, _, _, ?h1, ?h2⟩; (case h1 => rfl); (case h2 => k_is)))
    (case k__law_refused => k_is)
    (case g_law => k_is)
    (case e_law => (refine' ⟨_, _, _, _, _, _, _, _, _, ?h1, ?h2⟩; (case h1 => rfl); (case h2 => k_is)))
    (case k_law => k_is)
    (case g_Network => k_is)
    (case j_Network_init => k_is)
    (case j_Network_eq => k_is)
    (case okc => kernel_rfl)
    (case e_Network_init => (refine' ⟨_, _, _, _, _, _, _, _, _, ?h1, ?h2⟩; (case h1 => rfl); (case h2 => k_is)))
    (case k_Network_init => k_is)
    (case e_Network_eq => (refine' ⟨_, _, _, _, _, _, _, _, _, ?h1, ?h2⟩; (case h1 => rfl); (case h2 => k_is)))
    (case k_Network_eq => k_is)
    (case gM => k_is)
    (case eM => (refine' ⟨_, _, _, _, _, _, _, _, ?h1, ?h2⟩; (case h1 => rfl); (case h2 => k_is)))
    (case kM => k_is)
    (case gL => k_is)
    (case eL => (refine' ⟨_, _, _, _, _, _, _, _, ?h1, ?h2⟩; (case h1 => rfl); (case h2 => k_is)))
    (case kL => k_is)
    (case gR => k_is)
    (case eR => (refine' ⟨_, _, _, _, _, _, _, _, ?h1, ?h2⟩; (case h1 => rfl); (case h2 => k_is)))
    (case kR => k_is)
    (case neML => decide)
    (case neMR => decide)
    (case neLR => decide)
    (case z_int => k_is)
    (case z_bool => k_is)
    (case z_abs => k_is)
    (case z_len => k_is)
    (case z_min => k_is)
    (case z_max => k_is)
    (case z_sorted => k_is)
    (case z_tuple => k_is)
    (case z_list => k_is)
    (case z_range => k_is)
    (case z_repr => k_is)
    (case z_isinstance => k_is)
    (case z_enumerate => k_is)
  case hcd => intro w; refine K04.all3 ?_ ?_ ?_ <;> kernel_rfl
  case nt => intro w; refine K04.all3 ?_ ?_ ?_ <;> kernel_rfl
